import PyProof.Rows.All
import HandS.AnyAll
import HandS.GenOver
import HandS.GenBody
import HandS.Lambda
import HandS.Conv
import PyProof.TupleOfGen
import Wide.All
import OpenK.AllK
import Wide.FinOn
import HandS.ForMost
import HandS.Defaults
import HandS.IsInst
import HandS.Wide
import HandS.Star
import HandS.Zip
import HandS.DictComp
import HandS.TupAny
import HandS.Deep
import HandS.HeadHook4
import HandS.HeadWalk
import HandS.Head2
import PySem.Challenge.RW_passmill_k26_lines_refused
import KE.KStateDown
import HandS.HeadEnd
import HandS.Style
import HandS.Strs
import HandS.Set
import HandS.SetFor
import PyProof.Rows.SortShellAny
import HandS.SetBool
import HandS.Rev
import HandS.Exc
import HandS.ExcOwn
import HandS.TryOnly
import KE.KSortTupAny
import HandS.Sort
import PyProof.TupleOfSeq
import HandS.CallLocal
import HandS.DictTup
import HandS.Small
import PyProof.DictMoreH
import HandS.TupLe
import KE.KDictPairs
import HandS.SetKeys
import HandS.ExcInit
import KE.KExcSuper
import HandS.FStr
import HandS.ExcIs
import HandS.HotCalls
import HandS.ExcField
import KE.KSuper
import HandS.TupMul
import KE.GoesEnum
import HandS.Iter
import HandS.Text
import HandS.RaiseMore
import PyProof.JoinWalk
set_option Elab.async false
set_option linter.all false
set_option maxRecDepth 100000
set_option maxHeartbeats 4000000
set_option maxHeartbeats 4000000
namespace GX
open PySem PySem.Spec PyProof.Rows L2 GxR GenW
/-- the context of a generator expression's own frame, woken around B -/
abbrev gblkB (X : Cx) (B : Around) (s : Shared) (H : Hp) (cenv : Env) (fp : List Addr) (pn : List (Addr × Obj)) : Cx :=
  { X with A := B.deeper cenv, s_0 := s, H_0 := H, env := cenv, outer := X.stack, stack := cenv :: X.stack, ex := fp, fn := fun x => cenv.scope.names.lookup x == some .cell, pn := pn, xe := fun _ _ => False }
/-- .. by a built-in's own loop; by a collecting one -/
abbrev gblk (X : Cx) (s : Shared) (H : Hp) (cenv : Env) (fp : List Addr) (pn : List (Addr × Obj)) : Cx := gblkB X X.A.in1.in1 s H cenv fp pn
class LamTab where
  tab : Addr → Option Str
variable [LamTab]
/-- a lambda's code object -/
def LamC (q : Str) (H : Hp) (cv : Value) : Prop := ∃ c, cv = .ref c ∧ H c = some (LamX.CodeO c q)
/-- the table at p bears such ones alone -/
def LamT (q : Str) (H : Hp) (p : Addr) : Prop := ∃ ps : Array Value, H p = some (.tbl ps) ∧ TriplesOk ps.toList ∧ ∀ (pos : Pos) (cv : Value), codeAmong pos ps.toList = some cv → LamC q H cv
/-- this table is not the lambdas' one, which is known -/
def NL (H : Hp) (P : Addr) : Prop := LamTab.tab P = none ∧ ∀ p q, LamTab.tab p = some q → LamT q H p
theorem LamC.move {q : Str} {H H' : Hp} {cv : Value} (k : ∀ b q, H b = some (LamX.CodeO b q) → H' b = H b) (h : LamC q H cv) : LamC q H' cv := by
  obtain ⟨c, rfl, e⟩ := h
  exact ⟨c, rfl, by rw [k c _ e]; exact e⟩
theorem NL.move {H H' : Hp} {P : Addr} (k : ∀ b q, H b = some (LamX.CodeO b q) → H' b = H b) (k2 : ∀ p q ps, LamTab.tab p = some q → H p = some (.tbl ps) → H' p = H p) (n : NL H P) : NL H' P := ⟨n.1, fun p q hp => by
  obtain ⟨ps, e, t, g⟩ := n.2 p q hp
  exact ⟨ps, by rw [k2 p q ps hp e]; exact e, t, fun pos cv z => (g pos cv z).move k⟩⟩
def TOk (H : Hp) (P : Addr) (l : List Value) : Prop := TriplesOk l ∧ NL H P
def GenC (c P : Addr) : HO := .ext fun h => PySem.W.CodeHd h c P
theorem genC_ne {c P : Addr} (ps : Array Value) : GenC c P ≠ .tbl ps := fun z => by
  unfold GenC at z
  cases z
/-- this value is such a code object, and its table is known -/
def GoodC (H : Hp) (cv : Value) : Prop := ∃ c P qs, cv = .ref c ∧ H c = some (GenC c P) ∧ H P = some (.tbl qs) ∧ TOk H P qs.toList
/-- the table at P, all whose code objects are good -/
def TabN (H : Hp) (P : Addr) : Prop := ∃ ps : Array Value, H P = some (.tbl ps) ∧ TOk H P ps.toList ∧ ∀ (pos : Pos) (cv : Value), codeAmong pos ps.toList = some cv → GoodC H cv
/-- the table has grown by good ones, all else stands -/
def TabbedN (P : Addr) (H H' : Hp) : Prop := (∃ ps ps' : Array Value, H P = some (.tbl ps) ∧ H' P = some (.tbl ps') ∧ TriplesOk ps'.toList ∧ ∀ (pos : Pos) (cv : Value), codeAmong pos ps'.toList = some cv → codeAmong pos ps.toList = some cv ∨ GoodC H' cv) ∧
  (∀ b o, b ≠ P → H b = some o → H' b = some o) ∧ LamTab.tab P = none
/-- the generator's code object, as the table tells it -/
def CodeAt (H : Hp) (P : Addr) (pos : Pos) (code : Value) : Prop := ∃ ps : Array Value, H P = some (.tbl ps) ∧ codeAmong pos ps.toList = some code
theorem NL.tabbed {P Q : Addr} {H H' : Hp} (t : TabbedN P H H') (n : NL H Q) : NL H' Q := by
  obtain ⟨⟨qs, qs', e1, e2, _, _⟩, k, nP⟩ := t
  refine n.move (fun b q e => ?_) fun p q ps hp e => ?_
  · rw [k b _ (fun z => by rw [z, e1] at e; exact LamX.codeO_ne qs (Option.some.inj e).symm) e, e]
  · rw [k p _ (fun z => by rw [z, nP] at hp; cases hp) e, e]
theorem GoodC.tabbed {P : Addr} {H H' : Hp} {cv : Value} (t : TabbedN P H H') (h : GoodC H cv) : GoodC H' cv := by
  obtain ⟨c, Q, qs, rfl, h1, h2, h3, h4⟩ := h
  have h4' := h4.tabbed t
  obtain ⟨⟨ps, ps', e1, e2, e3, _⟩, k, _⟩ := t
  have nc : c ≠ P := fun z => by
    rw [z, e1] at h1
    exact genC_ne ps (Option.some.inj h1).symm
  by_cases hq : Q = P
  · exact ⟨c, Q, ps', rfl, k c _ nc h1, by rw [hq]; exact e2, e3, h4'⟩
  · exact ⟨c, Q, qs, rfl, k c _ nc h1, k Q _ hq h2, h3, h4'⟩
theorem TabN.tabbed {P : Addr} {H H' : Hp} (t : TabN H P) (h : TabbedN P H H') : TabN H' P := by
  obtain ⟨ps, h1, h2, h3⟩ := t
  obtain ⟨⟨qs, qs', e1, e2, e3, e4⟩, k, _⟩ := id h
  rw [h1] at e1
  cases e1
  refine ⟨qs', e2, ⟨e3, h2.2.tabbed h⟩, fun pos cv e => ?_⟩
  rcases e4 pos cv e with e | e
  · exact (h3 pos cv e).tabbed h
  · exact e
theorem TabN.good {P : Addr} {H : Hp} {pos : Pos} {cv : Value} (t : TabN H P) (h : CodeAt H P pos cv) : GoodC H cv := by
  obtain ⟨ps, h1, h2, h3⟩ := t
  obtain ⟨qs, e1, e2⟩ := h
  rw [h1] at e1
  cases e1
  exact h3 pos cv e2
theorem room_gen {k : Nat} {A : Around} (r : Room (k + 1) A) (env : Env) : Room k (A.in1.in1.deeper env) :=
  ⟨r.hd, by have := r.dp; show A.depth + 1 + 3 * k + 5 < _; omega, by have := r.un; show A.units + 1 + 1 + 3 + 16 * k + 200 < _; omega⟩
theorem over_gen {A : Around} {elt : Expr} {gs : List Comprehension} {scope : Scope} {pos : Pos} {it acc : Value} {env : Env} : A.over (.compLoop (.GeneratorExp elt gs scope pos) 0 it acc env) [] = A.deeper env := by
  first
    | rfl
    | (obtain ⟨hd, d, fr, gs, u⟩ := A; simp [Around.over, Around.deeper, marksOver, frameCount, unitsOf, envsOf, guardsOf, pushEnvs, pushGuards, Code.envs, Code.env?, Code.isFrame, Code.guards, Code.isGuard, Code.weight, Code.frames, Code.isCreation, Code.isCaller, Code.cUnits])
section
variable {X : Cx} {pins : List (Addr × Obj)} {σ : L2.St} {H : Hp} {s : Shared}
/-- the generators have turned, all else stands -/
theorem inv_gens {s' : Shared} (I : Inv X pins σ H s) (hh : s'.heap = s.heap) (ho : s'.os = s.os) (hb : AllBare s'.gens) : Inv X pins σ H s' := by
  refine ⟨I.ok, ho.trans I.os, hb, ?_, ?_, ?_, I.free, I.freeC, ?_, ?_, I.len⟩
  · rw [hh]; exact I.base
  · rw [hh]; exact I.loc
  · rw [hh]; exact I.cell
  · rw [hh]; exact I.pin
  · rw [hh]; exact I.hok
/-- the frame of a generator expression: its own names are local, others captured -/
structure GOk (N : List Str) (sc scope : Scope) (own : List (Str × Nat)) : Prop where
  blk : BlkOk N sc scope own
  co : scope.isCoroutine = false
  dot : scope.names.lookup (".0" : Str) = some NameKind.local
theorem pushCells_size : ∀ (names : List (Str × NameKind)) (h : Heap), h.objs.size ≤ (pushCells h names).objs.size
  | [], _ => Nat.le_refl _
  | (_, kind) :: r, h => by
    unfold pushCells
    split
    · refine Nat.le_trans ?_ (pushCells_size r _)
      rw [Heap.size_push]
      exact Nat.le_succ _
    · exact pushCells_size r h
theorem gen_start {B : Around} {scope : Scope} {own : List (Str × Nat)} {fp : List Addr} {code : Value} {it : Value} {h' : Heap} {go : Obj} {g' : Array GenState} {tk : Nat} (hBf : B.frames = some X.stack) (hBh : X.calm = true → B.handled = none) (I : Inv X pins σ H s) (ok : GOk X.N X.env.scope scope own) (hN : X.N.Nodup) (hfp : ∀ b ∈ fp, FpOk X pins H b ∧ b < s.heap.objs.size)
    (hn : h'.Ns s.heap.objs.size (fun y => if y = ".0" then some it else none)) (hs : Heap.SameBut s.heap.objs.size (pushCells (s.heap.push { cls := .type "frame", data := .dict #[] }) scope.names) h') (hg : AllBare g') (hgo : ∀ v, go.data ≠ .cell v) (hgf : go.isFreed = false) :
    Inv (gblkB X B s H (genEnv scope (cellsFrom (s.heap.objs.size + 1) scope.names (cloFrom X.env.cells scope.names [])) s.heap.objs.size code builtinsNs X.env) fp [(h'.objs.size, go)]) [] (wipe σ (own.map (·.2))) H { s with gens := g', toks := tk, heap := h'.push go } := by
  have hfree : ∀ y ∈ scope.names, y.2 = .free → ∃ c, X.env.cells.lookup y.1 = some c := fun y hy e => by
    rcases ok.blk.free y hy e with k | k
    · exact I.ok.has _ (.inl k)
    · exact I.ok.has _ (.inr k)
  have hsz : s.heap.objs.size + 1 ≤ h'.objs.size := by
    have q := pushCells_size scope.names (s.heap.push { cls := .type "frame", data := .dict #[] })
    rw [Heap.size_push] at q
    rw [hs.1]
    exact q
  have kc : ∀ b o, b ≠ s.heap.objs.size → (pushCells (s.heap.push { cls := .type "frame", data := .dict #[] }) scope.names).get? b = some o → (h'.push go).get? b = some o := fun b o hb e => Heap.get?_push_of_some _ (hs.extBut b o hb e)
  have kp : ∀ b o, s.heap.get? b = some o → (h'.push go).get? b = some o := fun b o e => kc b o (Nat.ne_of_lt (Heap.lt_size e)) (pushCells_keeps _ _ _ _ (Heap.get?_push_of_some _ e))
  generalize hcenv : genEnv scope (cellsFrom (s.heap.objs.size + 1) scope.names (cloFrom X.env.cells scope.names [])) s.heap.objs.size code builtinsNs X.env = cenv
  have hL : cenv.locals = s.heap.objs.size := by rw [← hcenv]; rfl
  have hcl : cenv.cells = cellsFrom (s.heap.objs.size + 1) scope.names (cloFrom X.env.cells scope.names []) := by rw [← hcenv]; rfl
  have hsc : cenv.scope = scope := by rw [← hcenv]; rfl
  have hfr : cenv.frame = some cenv.locals := by rw [← hcenv]; rfl
  rw [← Heap.size_push s.heap { cls := .type "frame", data := .dict #[] }] at hcl
  have clm : ∀ {y c}, (y, c) ∈ cloFrom X.env.cells scope.names [] → X.env.cells.lookup y = some c ∧ c < s.heap.objs.size := fun {y c} hm => by
    rcases cloFrom_mem hm with hm | ⟨h1, rfl⟩
    · cases hm
    · obtain ⟨c, hc⟩ := hfree _ h1 rfl
      rw [hc]
      obtain ⟨w, z⟩ := I.cell _ _ hc
      exact ⟨rfl, z.lt⟩
  have mem : ∀ {y c}, cenv.cells.lookup y = some c → (X.env.cells.lookup y = some c ∧ c < s.heap.objs.size) ∨ (s.heap.objs.size + 1 ≤ c ∧ CellAt (pushCells (s.heap.push { cls := .type "frame", data := .dict #[] }) scope.names) c none) := fun {y c} e => by
    rw [hcl] at e
    rcases cells_mem (PySem.mem_of_lookup e) with hm | ⟨_, h2, h3⟩
    · exact .inl (clm hm)
    · rw [Heap.size_push] at h2; exact .inr ⟨h2, h3⟩
  have look : ∀ {y}, scope.names.lookup y = some .free → ∃ c, cenv.cells.lookup y = some c ∧ X.env.cells.lookup y = some c := fun {y} hl => by
    have hy : (y, NameKind.free) ∈ scope.names := PySem.mem_of_lookup hl
    obtain ⟨c', e'⟩ := mem_lookup (cells_acc (names := scope.names) (n := (s.heap.push { cls := .type "frame", data := .dict #[] }).objs.size) (cloFrom_has (cells := X.env.cells) (acc := []) hy))
    rw [← hcl] at e'
    refine ⟨c', e', ?_⟩
    rw [hcl] at e'
    rcases cells_mem (PySem.mem_of_lookup e') with hm | ⟨h1, _, _⟩
    · exact (clm hm).1
    · have := ok.blk.uniq _ h1
      rw [hl] at this; cases this
  have okB : (gblkB X B s H cenv fp [(h'.objs.size, go)]).Ok := by
    refine ⟨I.ok.mod, by show cenv.scope.kind = _; rw [hsc]; exact ok.blk.kind, by show cenv.globals = _; rw [← hcenv]; exact I.ok.glob, by show cenv.builtins = _; rw [← hcenv]; rfl, by show s.heap.objs.size ≤ cenv.locals; rw [hL]; exact Nat.le_refl _,
      fun y z c e1 e2 => ?_, fun y hy => ?_, fun y c z e => ?_, hBh, ?_, .inr ⟨rfl, hfr⟩, fun b hb => ⟨?_, fun y c e z => ?_⟩, I.bs, Nat.le_trans I.ok.bsz I.sz, fun b o e hb => ?_, fun b hb z => ?_, I.stack, I.stkFree⟩
    · have e1 : cenv.cells.lookup y = some c := e1
      have e2 : cenv.cells.lookup z = some c := e2
      rw [hcl] at e1 e2
      refine cells_inj (fun p hp => ?_) (fun y z c a b => I.ok.inj y z c (clm a).1 (clm b).1) (PySem.mem_of_lookup e1) (PySem.mem_of_lookup e2)
      rw [Heap.size_push]
      exact Nat.lt_succ_of_lt (clm (y := p.1) (c := p.2) hp).2
    · show ∃ c, cenv.cells.lookup y = some c
      rcases hy with hy | hy
      · have hy' : cenv.scope.names.lookup y = some .cell := hy
        rw [hsc] at hy'
        obtain ⟨c, hm⟩ := cells_has (n := (s.heap.push { cls := .type "frame", data := .dict #[] }).objs.size) (acc := cloFrom X.env.cells scope.names []) (PySem.mem_of_lookup hy')
        obtain ⟨c', e'⟩ := mem_lookup hm
        exact ⟨c', by rw [hcl]; exact e'⟩
      · have hy' : cenv.scope.names.lookup y = some .free := hy
        rw [hsc] at hy'
        obtain ⟨c, h1, _⟩ := look hy'
        exact ⟨c, h1⟩
    · have z : (cenv.scope.names.lookup y == some NameKind.cell) = true := z
      rw [hsc] at z
      have z : scope.names.lookup y = some .cell := by simpa using z
      have e : cenv.cells.lookup y = some c := e
      rw [hcl] at e
      rcases cells_mem (PySem.mem_of_lookup e) with hm | ⟨_, h2, _⟩
      · rcases cloFrom_mem hm with hm | ⟨h1, _⟩
        · cases hm
        · have q := ok.blk.uniq _ h1
          rw [z] at q; cases q
      · rw [Heap.size_push] at h2
        exact Nat.le_of_succ_le h2
    · exact Around.frames_deeper hBf
    · show b ≠ cenv.locals
      rw [hL]; exact Nat.ne_of_lt (hfp b hb).2
    · have e : cenv.cells.lookup y = some c := e
      rcases mem e with ⟨h1, _⟩ | ⟨h1, _⟩
      · exact (hfp b hb).1.2.2.2.2.1 y c h1 z
      · have h2 : s.heap.objs.size + 1 ≤ b := by rw [← z]; exact h1
        exact absurd (Nat.lt_of_lt_of_le (hfp b hb).2 (Nat.le_of_succ_le h2)) (Nat.lt_irrefl _)
    · rcases (hfp b hb).1.2.2.2.1 with z | z
      · exact I.ok.noex b o e z
      · exact absurd (Nat.lt_of_lt_of_le (Heap.lt_size e) (Nat.le_trans I.ok.bsz z)) (Nat.lt_irrefl _)
    · rcases List.mem_cons.mp (I.stkSub b z) with z | z
      · exact (hfp b hb).1.2.1 z
      · exact (hfp b hb).1.2.2.1 z
  refine ⟨okB, rfl, hg, Un.kept kp, ⟨fun y => if y = ".0" then some it else none, ?_, fun i y av e1 e2 e3 => ?_⟩, fun y c e => ?_, ?_, fun y c e => ?_, fun p hp => ?_, I.hok.kept kp, by rw [wipe_length]; exact I.len⟩
  · show Heap.Ns _ cenv.locals _
    rw [hL]
    exact hn.push _
  · obtain ⟨e2, hne⟩ := wipe_some e2
    have hfr : scope.names.lookup y = some .free := by
      have key : ∀ k, cenv.scope.names.lookup y = some k → k = .local ∨ k = .cell ∨ k = .free → scope.names.lookup y = some .free := fun k hk hk' => by
        rw [hsc] at hk
        have no : ¬ (k = .local ∨ k = .cell) := fun hh => by
          rcases ok.blk.own _ (PySem.mem_of_lookup hk) hh with e' | e'
          · obtain ⟨p, hp, hpy⟩ := List.mem_map.mp e'
            have e3 := ok.blk.ix p hp
            have : p.1 = y := hpy
            rw [this] at e3
            exact hne (List.mem_map.mpr ⟨p, hp, nodup_ix hN e3 e1⟩)
          · exact e' (List.mem_of_getElem? e1)
        rcases hk' with rfl | rfl | rfl
        · exact absurd (.inl rfl) no
        · exact absurd (.inr rfl) no
        · exact hk
      have e3 : Vis cenv.scope y := e3
      rcases e3 with e3 | e3 | e3
      · exact key _ e3 (.inl rfl)
      · exact key _ e3 (.inr (.inl rfl))
      · exact key _ e3 (.inr (.inr rfl))
    obtain ⟨m, hn, hl⟩ := I.loc
    have hvis : Vis X.env.scope y := (ok.blk.free _ (PySem.mem_of_lookup hfr) rfl).elim (fun k => .inr (.inl k)) (fun k => .inr (.inr k))
    obtain ⟨w, r, q⟩ := hl i y av e1 e2 hvis
    have hk : cenv.kindOf y = some .free := by show cenv.scope.names.lookup y = _; rw [hsc]; exact hfr
    refine ⟨w, r, .inr ⟨.inr hk, ?_⟩⟩
    obtain ⟨c, h1, h2⟩ := look hfr
    rcases q with ⟨k, _⟩ | ⟨_, c', e', z⟩
    · have k : X.env.scope.names.lookup y = some .local := k
      rcases ok.blk.free _ (PySem.mem_of_lookup hfr) rfl with k' | k' <;> rw [show X.env.scope.names.lookup y = _ from k'] at k <;> cases k
    · rw [h2] at e'; cases e'
      exact ⟨c, h1, z.keeps kp⟩
  · have e : cenv.cells.lookup y = some c := e
    rcases mem e with ⟨h1, _⟩ | ⟨h1, z⟩
    · obtain ⟨w, z⟩ := I.cell y c h1
      exact ⟨w, z.keeps kp⟩
    · obtain ⟨o, z1, z2⟩ := z
      exact ⟨_, o, kc c o (Nat.ne_of_gt h1) z1, z2⟩
  · show H cenv.locals = none
    rw [hL]; exact I.hok.fresh (Nat.le_refl _)
  · have e : cenv.cells.lookup y = some c := e
    rcases mem e with ⟨h1, _⟩ | ⟨h1, _⟩
    · exact I.freeC y c h1
    · exact I.hok.fresh (Nat.le_of_succ_le h1)
  · have hp : p ∈ [(h'.objs.size, go)] ++ ([] : List (Addr × Obj)) := hp
    simp only [List.append_nil, List.mem_singleton] at hp
    subst hp
    refine ⟨Heap.get?_push_size _ hgf, I.hok.fresh (Nat.le_trans (Nat.le_succ _) hsz), ?_, fun hb => ?_, hgo⟩
    · show h'.objs.size ≠ cenv.locals
      rw [hL]; exact Nat.ne_of_gt hsz
    · obtain ⟨_, o, ho, _⟩ := I.stack.mem (show h'.objs.size ∈ frs X.stack from hb)
      have h9 : (h'.objs.size : Nat) < s.heap.objs.size := Heap.lt_size ho
      omega
/-- what a turn has to reach -/
def AllStep (b₀ : Bool) (g : TG) (tt : TT) (te : TE) (vs : List Nat) (σ : L2.St) (Q : VK) (x : V) (H : Hp) (Nx : Hp → Prop) : Prop :=
  g x (wipe σ vs) H fun σ2 H2 => wipe σ2 vs = wipe σ vs ∧ tt σ2 H2 fun b H3 => if b = true then te σ2 H3 fun y H4 => ∃ c, y = .bl c ∧ if c = b₀ then Q (.bl b₀) H4 else Nx H4 else Nx H3
/-- the loop over what J walks -/
def AllLoop (b₀ : Bool) (g : TG) (tt : TT) (te : TE) (vs : List Nat) (σ : L2.St) (Q : VK) (J : It) (H2 : Hp) : Prop :=
  ∃ W : Nat → Nat → Hp → Prop, (∃ m, W 0 m H2) ∧ ∀ i m H, W i m H → (J.stop i H ∧ Q (.bl (!b₀)) H) ∨ (J.go i H ∧ ∃ Nx : Hp → Prop, (∀ H', Nx H' → ∃ m', m' < m ∧ W (i + 1) m' H') ∧ ∀ x H', J.yld i H x H' → AllStep b₀ g tt te vs σ Q x H' Nx)
/-- what the expression gives: b₀ ends it -/
def tAllG (b₀ : Bool) (P : Addr) (wi : L2.TI) (g : TG) (tt : TT) (te : TE) (vs : List Nat) : TE := fun σ H Q => wi σ H fun J H1 => TabN H1 P ∧ ∀ H2, TabbedN P H1 H2 → AllLoop b₀ g tt te vs σ Q J H2
/-- the run's end; an item handed out -/
def gR (G : Cx) (σw : L2.St) (b₀ : Bool) (Q : VK) : Nat → Shared → Shared → Prop := fun _ _ s1 => ∃ H1, Inv G [] σw H1 s1 ∧ Q (.bl (!b₀)) H1
def gY (G : Cx) (σw : L2.St) (b₀ : Bool) (Q : VK) : Protocol := fun _ _ v s1 kap => ∃ c H1, v = .bool c ∧ Inv G [] σw H1 s1 ∧ (c = b₀ → Q (.bl b₀) H1) ∧ (c ≠ b₀ → ∀ s2 : Shared, s2.heap = s1.heap → s2.os = s1.os → AllBare s2.gens → kap (.send .none) s2)
theorem seg_gen {G : Cx} {A : Around} {elt tg iter : Expr} {ifs : List Expr} {scope : Scope} {pos : Pos} {it : Addr} {fp : List Addr} {tn : Nat → Heap → Prop} {J : It} {g : TG} {tt : TT} {te : TE} {vs : List Nat} {σ0 : L2.St} {b₀ : Bool} {Q : VK} {W : Nat → Nat → Hp → Prop}
    (hA : G.A = A.deeper G.env) (hxe : G.xe = fun _ _ => False) (hc : G.calm = true) (hco : G.env.scope.isCoroutine = false) (hex : G.ex = fp) (hpn : ∀ p ∈ G.pn, p.1 ∉ fp)
    (T : Turn G.prog G.w G.K tg J fp it tn) (pg : PG G tg g) (pt : PTs G ifs tt) (pe : PE G elt te)
    (turn : ∀ i m H, W i m H → (J.stop i H ∧ Q (.bl (!b₀)) H) ∨ (J.go i H ∧ ∃ Nx : Hp → Prop, (∀ H', Nx H' → ∃ m', m' < m ∧ W (i + 1) m' H') ∧ ∀ x H', J.yld i H x H' → g x (wipe σ0 vs) H' fun σ2 H2 => wipe σ2 vs = wipe σ0 vs ∧ tt σ2 H2 fun b H3 =>
      if b = true then te σ2 H3 fun y H4 => ∃ c, y = .bl c ∧ if c = b₀ then Q (.bl b₀) H4 else Nx H4 else Nx H3)) :
    ∀ (m n i : Nat) (H' : Hp) (s₀ s : Shared), m < n → Inv G [] (wipe σ0 vs) H' s → tn i s.heap → (∀ b ∈ fp, H' b = none) → W i m H' →
      Seg (model G.prog G.w) A (fun n s₀ r s₁ => r = .ok .next ∧ gR G (wipe σ0 vs) b₀ Q n s₀ s₁) (gY G (wipe σ0 vs) b₀ Q) n s₀ (.compLoop (.GeneratorExp elt [⟨tg, iter, ifs, 0⟩] scope pos) 0 (.ref it) .none G.env)
        ((model G.prog G.w).den (.compLoop (.GeneratorExp elt [⟨tg, iter, ifs, 0⟩] scope pos) 0 (.ref it) .none G.env)) [] s := by
  have stat : ∀ {σ' : L2.St} {H' : Hp} {s' : Shared}, Inv G [] σ' H' s' → (∀ b ∈ fp, H' b = none) → ∀ b ∈ fp, FpOk G [] H' b := fun {σ' H' s'} I' hn b hb =>
    ⟨hn b hb, (I'.ok.exf b (by rw [hex]; exact hb)).1, I'.ok.exfs b (by rw [hex]; exact hb), .inl (by rw [hex]; exact hb), fun x c e => (I'.ok.exf b (by rw [hex]; exact hb)).2 x c e, fun p hp => by
      rw [List.append_nil] at hp
      exact fun z => hpn p hp (by rw [z]; exact hb)⟩
  have hov : A.over (.compLoop (.GeneratorExp elt [⟨tg, iter, ifs, 0⟩] scope pos) 0 (.ref it) .none G.env) [] = G.A := by rw [hA]; exact over_gen
  intro m
  induction m using Nat.strongRecOn with
  | ind m ih =>
  intro n i H5 s₀ s5 hmn I5 st5 n5 w5
  show Seg _ A _ _ _ s₀ _ ((compTurn (.GeneratorExp elt [⟨tg, iter, ifs, 0⟩] scope pos) 0 (.ref it) .none G.env).onRaise (leaving G.env)) [] s5
  rw [compTurn_gen, Sem.onRaise_eq_wrap]
  refine seg_bind_wrap (wpAny_standAt ?_)
  rcases turn i m H5 w5 with ⟨stop, qq⟩ | ⟨go, Nx, hNx, step⟩
  · refine seg_bind_wrap ?_
    rw [hov]
    refine thnF (T.done G rfl rfl rfl hc i [] s5 _ H5 (fun _ _ => False) I5 (stat I5 n5) st5 stop) fun r s6 ⟨hr, I6⟩ => ?_
    subst hr
    exact seg_end (.ok .next) ⟨rfl, H5, I6, qq⟩
  · refine seg_bind_wrap ?_
    rw [hov]
    refine thnF (T.item G rfl rfl rfl hc i [] s5 _ H5 (fun _ _ => False) I5 (stat I5 n5) st5 go) fun r s6 ⟨u, hr, h6⟩ => ?_
    subst hr
    refine seg_bind_wrap ?_
    rw [hov]
    refine thnF h6 fun _ s7 ⟨x, H7, I7, r7, y7, st7, n7⟩ => ?_
    have I7' := I7.pinned (stat I7 n7) (T.obj _ _ st7)
    refine seg_bind_wrap ?_
    rw [hov]
    have pgr := pg.run _ s7 _ H7 x u _ I7' r7 (step x H7 y7)
    rw [hxe] at pgr
    refine thnF pgr fun _ s8 ⟨σ8, H8, I8, hw8, q8⟩ => ?_
    refine seg_bind_wrap ?_
    rw [hov]
    have ptr := pt.run _ s8 σ8 H8 _ I8 q8
    rw [hxe] at ptr
    refine thnF ptr fun b s9 ⟨H9, I9, q9⟩ => ?_
    -- the turn's end
    have fin : ∀ {s' : Shared} {H' : Hp}, Inv G ([] ++ pinsAt fp s7.heap) σ8 H' s' → Inv G [] (wipe σ0 vs) H' s' ∧ tn (i + 1) s'.heap ∧ (∀ b ∈ fp, H' b = none) := fun {s' H'} I' => by
      have pin' : ∀ b ∈ fp, ∀ o, s7.heap.get? b = some o → s'.heap.get? b = some o ∧ H' b = none := fun b hb o e =>
        let z := I'.pin (b, o) (List.mem_append_right _ (List.mem_append_right _ (mem_pinsAt hb e)))
        ⟨z.1, z.2.1⟩
      have hl : (wipe σ0 vs).length = σ8.length := by rw [← hw8, wipe_length]
      refine ⟨(I'.unpinned (pins := [])).weak hl (fun j v e => ?_), T.keep _ _ _ st7 fun b hb o e => (pin' b hb o e).1, fun b hb => ?_⟩
      · rw [← hw8] at e
        exact (wipe_some e).1
      · obtain ⟨o, e, _⟩ := T.obj _ _ st7 b hb
        exact (pin' b hb o e).2
    cases b with
    | false =>
      simp only [Bool.false_eq_true, if_false] at q9 ⊢
      obtain ⟨m', hm, w'⟩ := hNx H9 q9
      obtain ⟨f1, f2, f3⟩ := fin I9
      exact seg_again rfl (ih m' hm n (i + 1) H9 s₀ s9 (by omega) f1 f2 f3 w')
    | true =>
      simp only [if_true] at q9 ⊢
      have hy : ∀ v, yieldOut G.env v = yieldValue v := fun v => by simp only [yieldOut, hco, Bool.false_eq_true, if_false]
      simp only [hy]
      rw [Sem.bind_eq_wrap', Sem.bind_eq_wrap', Sem.wrap_wrap, Sem.wrap_wrap]
      refine seg_wrap ?_
      rw [hov]
      have per := pe.run _ s9 σ8 H9 _ I9 q9
      rw [hxe] at per
      refine thnF per fun z s10 ⟨yv, H10, I10, r10, c, hyv, q10⟩ => ?_
      subst hyv
      cases r10
      obtain ⟨f1, f2, f3⟩ := fin I10
      by_cases hcb : c = b₀
      · rw [if_pos hcb] at q10
        cases n with
        | zero => omega
        | succ n => exact seg_at (seg_yield rfl rfl rfl ⟨c, H10, rfl, f1, fun _ => q10, fun hne => absurd hcb hne⟩)
      · rw [if_neg hcb] at q10
        obtain ⟨m', hm, w'⟩ := hNx H10 q10
        cases n with
        | zero => omega
        | succ n =>
          refine seg_at (seg_yield rfl rfl rfl ⟨c, H10, rfl, f1, fun h => absurd h hcb, fun _ s2 hh ho hb => ?_⟩)
          exact seg_again rfl (ih m' hm n (i + 1) H10 s2 s2 (by omega) (inv_gens f1 hh ho hb) (by rw [hh]; exact f2) f3 w')
/-- the start of the run -/
theorem seg_genStart {G : Cx} {A : Around} {elt tg iter : Expr} {ifs : List Expr} {scope : Scope} {pos : Pos} {it : Addr} {R : GenEnd} {Y : Protocol} {n : Nat} {s₀ s : Shared} {fp : List Addr} {tn : Nat → Heap → Prop} {J : It}
    (T : Turn G.prog G.w G.K tg J fp it tn) (st : tn 0 s.heap)
    (loop : Seg (model G.prog G.w) A R Y n s₀ (.compLoop (.GeneratorExp elt [⟨tg, iter, ifs, 0⟩] scope pos) 0 (.ref it) .none G.env) ((model G.prog G.w).den (.compLoop (.GeneratorExp elt [⟨tg, iter, ifs, 0⟩] scope pos) 0 (.ref it) .none G.env)) [] s) :
    Seg (model G.prog G.w) A R Y n s₀ (.compStart (.GeneratorExp elt [⟨tg, iter, ifs, 0⟩] scope pos) 0 (.ref it) .none G.env) ((model G.prog G.w).den (.compStart (.GeneratorExp elt [⟨tg, iter, ifs, 0⟩] scope pos) 0 (.ref it) .none G.env)) [] s := by
  show Seg _ A _ _ _ s₀ _ ((compStart (.GeneratorExp elt [⟨tg, iter, ifs, 0⟩] scope pos) 0 (.ref it) .none G.env).onRaise (leaving G.env)) [] s
  unfold compStart
  rw [Sem.onRaise_eq_wrap]
  show Seg _ A _ _ _ s₀ _ ((ask >>= _).wrap _ _ _ _) [] s
  refine seg_bind_wrap (wpAny_askSetting ?_)
  split
  · exact seg_again rfl loop
  · first
      | exact seg_bind_wrap (wpAny_rule (seg_bind_wrap (wpAny_standAt (seg_bind_wrap (T.self _ 0 s _ _ st (seg_again rfl loop))))))
      | (refine seg_bind_wrap (wpAny_rule ?_); show Seg _ A _ _ _ s₀ _ ((standAt iter.pos >>= _).wrap _ _ _ _) [] s; exact seg_bind_wrap (wpAny_standAt (seg_bind_wrap (T.self _ 0 s _ _ st (seg_again rfl loop)))))
/-- what the consumer knows between two items -/
def Held (G : Cx) (σw : L2.St) (b₀ : Bool) (Q : VK) (A : Around) (a : Addr) (g n : Nat) (s : Shared) : Prop :=
  s.heap.IsGen a g ∧ s.heap.NoLimit ∧ ∃ gs, s.gens[g]? = some gs ∧ gs.Goes (model G.prog G.w) A (fun n s₀ r s₁ => r = .ok .next ∧ gR G σw b₀ Q n s₀ s₁) (gY G σw b₀ Q) n (.send .none) (s.setGen g .running)
theorem bare_set {s : Shared} {g : Nat} {x : GenState} (h : AllBare s.gens) (hx : x.bare = true) : AllBare (s.setGen g x).gens := fun y hy => by
  simp only [Shared.setGen] at hy
  obtain ⟨i, hi, rfl⟩ := Array.mem_iff_getElem.mp hy
  by_cases e : i = g
  · subst e
    simp only [Array.size_setIfInBounds] at hi
    rw [Array.getElem_setIfInBounds_self]
    exact hx
  · simp only [Array.size_setIfInBounds] at hi
    rw [Array.getElem_setIfInBounds_ne (by simpa using hi) (Ne.symm e)]
    exact h _ (Array.getElem_mem hi)
theorem set_at {s : Shared} {g : Nat} {x : GenState} (h : g < s.gens.size) : (s.setGen g x).gens[g]? = some x := by
  simp [Shared.setGen, h]
/-- next of the generator -/
theorem next_held {G : Cx} {σw : L2.St} {b₀ : Bool} {Q : VK} {A : Around} {E : Value → Shared → Prop} {a : Addr} {g n : Nat} {s : Shared} {Qn : Option Value → Shared → Prop} (hh : A.handled = none) (hd : A.depth < recursionLimit)
    (hg : ∀ s1 H1, Inv G [] σw H1 s1 → s1.heap.IsGen a g) (h : Held G σw b₀ Q A.in1 a g n s)
    (hY : ∀ c s1 H1 gs, Inv G [] σw H1 s1 → g < s1.gens.size → gs.bare = true → (c = b₀ → Q (.bl b₀) H1) → (c ≠ b₀ → n ≠ 0 ∧ Held G σw b₀ Q A.in1 a g (n - 1) (s1.setGen g gs)) → Qn (some (.bool c)) (s1.setGen g gs))
    (hR : ∀ s1 H1, Inv G [] σw H1 s1 → Q (.bl (!b₀)) H1 → Qn none s1) : wpAny (model G.prog G.w) A (pyNext (.ref a)) Qn E s := by
  obtain ⟨hgen, hl, gs, hgs, hgo⟩ := h
  have hgl : g < s.gens.size := (Array.getElem?_eq_some_iff.mp hgs).1
  refine wpAny_gsz (n := g + 1) hgl (wpAny_pyNext_genexpQ (P := gR G σw b₀ Q) hh hl hd hgen hgs hgo (fun v s1 gs' hb hv => ?_) fun s1 hp h' hk => ?_)
  · obtain ⟨c, H1, rfl, I1, h1, h2⟩ := hv
    intro hsz
    have hsz1 : g < s1.gens.size := by
      have q : (s1.setGen g gs').gens.size = s1.gens.size := by simp [Shared.setGen]
      have hsz' : g + 1 ≤ (s1.setGen g gs').gens.size := hsz
      omega
    refine hY c s1 H1 gs' I1 hsz1 hb h1 fun hne => ?_
    cases n with
    | zero => exact (h2 hne s1 rfl rfl I1.bare).elim
    | succ m => exact ⟨Nat.succ_ne_zero m, hg s1 H1 I1, I1.nolimit, gs', set_at hsz1, h2 hne _ rfl rfl (bare_set (bare_set I1.bare hb) rfl)⟩
  · intro _
    obtain ⟨H1, I1, q1⟩ := hp
    refine hR _ H1 ?_ q1
    have I2 := I1.kept (h' := h') (t' := s1.toks) hk
    exact inv_gens I2 rfl rfl (bare_set I1.bare rfl)
theorem all_loop {G : Cx} {σw : L2.St} {Q : VK} {A : Around} {a : Addr} {g : Nat} {R : Result → Shared → Prop} (hh : A.handled = none) (hd : A.depth < recursionLimit)
    (hg : ∀ s1 H1, Inv G [] σw H1 s1 → s1.heap.IsGen a g) (hR : ∀ c s1 H1, Inv G [] σw H1 s1 → Q (.bl c) H1 → R (.ok (.ret (.bool c))) s1) :
    ∀ (n : Nat) (s : Shared), Held G σw false Q A.in1.in1 a g n s → codeAny (model G.prog G.w) A (.builtin "all.loop" ⟨[.ref a], []⟩) R s := by
  intro n
  induction n with
  | zero =>
    intro s h
    refine codeAny_builtin F.entry_all_loop ?_
    rw [Around.under_plainId F.plain_all_loop _]
    show wpAny _ A.in1 (pyNext (.ref a) >>= _) _ _ s
    refine wpAny_bind (next_held (A := A.in1) hh hd hg h (fun c s1 H1 gs I1 hsz hb h1 h2 => ?_) fun s1 H1 I1 q1 => ?_)
    · refine wpAny_bind (wpAny_holding (wpAny_truthy_bool (wpAny_bind (wpAny_letGo ?_))))
      cases c with
      | true => exact absurd rfl (h2 (by decide)).1
      | false =>
        simp only [Bool.false_eq_true, if_false]
        exact wpAny_bind (wpAny_rule (wpAny_pure (hR false _ H1 (inv_gens I1 rfl rfl (bare_set I1.bare hb)) (h1 rfl))))
    · exact wpAny_bind (wpAny_rule (wpAny_pure (hR true _ H1 I1 q1)))
  | succ n ih =>
    intro s h
    refine codeAny_builtin F.entry_all_loop ?_
    rw [Around.under_plainId F.plain_all_loop _]
    show wpAny _ A.in1 (pyNext (.ref a) >>= _) _ _ s
    refine wpAny_bind (next_held (A := A.in1) hh hd hg h (fun c s1 H1 gs I1 hsz hb h1 h2 => ?_) fun s1 H1 I1 q1 => ?_)
    · refine wpAny_bind (wpAny_holding (wpAny_truthy_bool (wpAny_bind (wpAny_letGo ?_))))
      cases c with
      | true => exact wpAny_pure ⟨plainId_quiet F.plain_all_loop _, ih _ (h2 (by decide)).2⟩
      | false =>
        simp only [Bool.false_eq_true, if_false]
        exact wpAny_bind (wpAny_rule (wpAny_pure (hR false _ H1 (inv_gens I1 rfl rfl (bare_set I1.bare hb)) (h1 rfl))))
    · exact wpAny_bind (wpAny_rule (wpAny_pure (hR true _ H1 I1 q1)))
/-- a thing that stands in the heap is known from now on -/
theorem inv_track {a : Addr} {o : HO} (I : Inv X pins σ H s) (hn : H a = none) (ha : X.s_0.heap.objs.size ≤ a) (hl : a ≠ X.env.locals) (hcl : ∀ x c, X.env.cells.lookup x = some c → c ≠ a) (hp : ∀ p ∈ X.pn ++ pins, p.1 ≠ a)
    (hok : ObjOk X.prog X.w (upd H a o) s.heap a o) : Inv X pins σ (upd H a o) s := by
  have ne : ∀ b u, H b = some u → b ≠ a := fun b u e => ne_of_none e hn
  refine ⟨I.ok, I.os, I.bare, ⟨I.base.keep, I.base.slot, fun b ob q n hx => ?_, I.base.there, fun b xs q => ?_, fun b ob u q => ?_, fun b ps q => ?_⟩, I.loc, I.cell, ?_, fun x c e => ?_, fun p hp' => ?_, fun b u e => ?_, I.len⟩
  · rw [upd_ne (fun z => by
      have h1 := Heap.lt_size q
      rw [z] at h1
      exact Nat.lt_irrefl _ (Nat.lt_of_lt_of_le h1 ha))]
    exact I.base.free b ob q n hx
  · have q2 := I.base.tups b xs q
    rw [upd_ne (ne _ _ q2)]; exact q2
  · have q2 := I.base.frzs b ob u q
    rw [upd_ne (ne _ _ q2)]; exact q2
  · obtain ⟨more, q2⟩ := I.base.tbls b ps q
    exact ⟨more, by rw [upd_ne (ne _ _ q2)]; exact q2⟩
  · rw [upd_ne (Ne.symm hl)]; exact I.free
  · rw [upd_ne (hcl x c e)]; exact I.freeC x c e
  · obtain ⟨z1, z2, z3⟩ := I.pin p hp'
    exact ⟨z1, by rw [upd_ne (hp p hp')]; exact z2, z3⟩
  · by_cases hb : b = a
    · subst hb
      rw [upd_same] at e
      cases e
      exact hok
    · rw [upd_ne hb] at e
      exact (I.hok b u e).stay (fun _ _ _ z => z) (fun d z => by rw [upd_ne (ne _ _ z)]; exact z) fun d xs z => by rw [upd_ne (ne _ _ z)]; exact z
/-- the code object of a generator expression: found in the table, or made -/
theorem gen_code {c P : Addr} {ps : Array Value} {gpos : Pos} {qn : Str} {scope : Scope} {Q : Value → Shared → Prop} {E : Value → Shared → Prop} (I : Inv X pins σ H s) (hcode : X.env.code = .ref c) (cd : PySem.W.CodeHd s.heap c P) (hP : H P = some (.tbl ps)) (htr2 : TOk H P ps.toList)
    (h : ∀ (code : Value) (H3 : Hp) (s3 : Shared), Inv X pins σ H3 s3 → TabbedN P H H3 → CodeAt H3 P gpos code → (∀ b o, b ≠ P → s.heap.get? b = some o → s3.heap.get? b = some o) → (∀ b, b < s.heap.objs.size → b ≠ P → H3 b = H b) → Q code s3) :
    wpAny (model X.prog X.w) X.A (genexprCode X.env gpos qn scope) Q E s := by
  obtain ⟨htr, nl⟩ := htr2
  have hPs : s.heap.get? P = some { cls := .none, data := .fields ps } := I.hok P _ hP
  cases hf : codeAmong gpos ps.toList with
  | some cv =>
    refine wpAny_genexprCode_hit hcode (cd.code hPs htr) hf ?_
    exact h cv H s I ⟨⟨ps, ps, hP, hP, htr, fun _ _ e => .inl e⟩, fun _ _ _ e => e, nl.1⟩ ⟨ps, hP, hf⟩ (fun _ _ _ e => e) fun _ _ _ => rfl
  | none =>
    refine wpAny_genexprCodeX hcode (cd.code hPs htr) (cd.tab hPs) hf fun c' h' tk hx hge hlt hco' _ htab' ⟨P', hgP, hco2, htab2⟩ => ?_
    obtain ⟨o1, vs, f1, tf, fl, tg, inF, tx, tt, op, _, _, _, _, _, _, _, _, _, htr', _⟩ := hco'
    have hl : (ps ++ #[rawInt gpos.line, rawInt gpos.col, Value.ref c']).toList = ps.toList ++ [rawInt gpos.line, rawInt gpos.col, .ref c'] := by simp
    have I1 : Inv X pins σ (upd H P (.tbl (ps ++ #[rawInt gpos.line, rawInt gpos.col, Value.ref c']))) { s with heap := h', toks := tk } := inv_tab (g' := s.gens) (d' := s.drawn) I hP (fun b u hb e => hx b u hb e) htab'.2 I.bare
    have hPlt : P < s.heap.objs.size := Heap.lt_size hPs
    have ncP : c' ≠ P := fun z => by rw [z] at hge; exact Nat.lt_irrefl _ (Nat.lt_of_lt_of_le hPlt hge)
    have nPP : P' ≠ P := fun z => by rw [z] at hgP; exact Nat.lt_irrefl _ (Nat.lt_of_lt_of_le hPlt hgP)
    have cd2 : PySem.W.CodeHd h' c' P' := .of hco2 htab2
    have ncc : c' ≠ P' := by obtain ⟨_, _, _, _, _, _, _, _, _, _, _, _, _, _, _, _, _, _, n⟩ := cd2; exact n
    have fc := I.fpOk (H' := H) hge (I.hok.fresh hge)
    have fP := I.fpOk (H' := H) hgP (I.hok.fresh hgP)
    have I2 : Inv X pins σ (upd (upd H P (.tbl (ps ++ #[rawInt gpos.line, rawInt gpos.col, Value.ref c']))) c' (GenC c' P')) { s with heap := h', toks := tk } := by
      refine inv_track I1 (by rw [upd_ne ncP]; exact I.hok.fresh hge) (Nat.le_trans I.sz hge) fc.2.1 fc.2.2.2.2.1 fc.2.2.2.2.2 ?_
      obtain ⟨o2, w2⟩ := id cd2
      refine ⟨cd2, ?_, fun h1 h2 q k => ?_⟩
      · obtain ⟨_, _, _, _, _, _, _, _, z, _⟩ := w2
        exact ⟨_, z⟩
      · obtain ⟨o, vs, file, tf, flags, tg, inF, text, tt, e, r⟩ := q
        exact ⟨o, vs, file, tf, flags, tg, inF, text, tt, k _ e, r⟩
    have I3 : Inv X pins σ (upd (upd (upd H P (.tbl (ps ++ #[rawInt gpos.line, rawInt gpos.col, Value.ref c']))) c' (GenC c' P')) P' (.tbl #[])) { s with heap := h', toks := tk } := by
      refine inv_track I2 (by rw [upd_ne (Ne.symm ncc), upd_ne nPP]; exact I.hok.fresh hgP) (Nat.le_trans I.sz hgP) fP.2.1 fP.2.2.2.2.1 fP.2.2.2.2.2 ?_
      exact htab2.2
    have good : GoodC (upd (upd (upd H P (.tbl (ps ++ #[rawInt gpos.line, rawInt gpos.col, Value.ref c']))) c' (GenC c' P')) P' (.tbl #[])) (.ref c') := by
      refine ⟨c', P', #[], rfl, by rw [upd_ne ncc, upd_same], upd_same, True.intro, ⟨(by
        cases hp : LamTab.tab P' with
        | none => rfl
        | some q =>
          obtain ⟨qs, e, _⟩ := nl.2 P' q hp
          rw [I.hok.fresh hgP] at e
          cases e), (NL.move (fun b q e => ?_) (fun p q ps hp e => ?_) nl).2⟩⟩
      · have hlt : b < s.heap.objs.size := I.hok.lt e
        rw [upd_ne (fun z => Nat.lt_irrefl _ (Nat.lt_of_lt_of_le hlt (by rw [z]; exact hgP))), upd_ne (fun z => Nat.lt_irrefl _ (Nat.lt_of_lt_of_le hlt (by rw [z]; exact hge))), upd_ne (fun z => by rw [z, hP] at e; exact LamX.codeO_ne ps (Option.some.inj e).symm)]
      · have hlt : p < s.heap.objs.size := I.hok.lt e
        rw [upd_ne (fun z => Nat.lt_irrefl _ (Nat.lt_of_lt_of_le hlt (by rw [z]; exact hgP))), upd_ne (fun z => Nat.lt_irrefl _ (Nat.lt_of_lt_of_le hlt (by rw [z]; exact hge))), upd_ne (fun z => by rw [z, nl.1] at hp; cases hp)]
    have atP : upd (upd (upd H P (.tbl (ps ++ #[rawInt gpos.line, rawInt gpos.col, Value.ref c']))) c' (GenC c' P')) P' (.tbl #[]) P = some (.tbl (ps ++ #[rawInt gpos.line, rawInt gpos.col, Value.ref c'])) := by rw [upd_ne (Ne.symm nPP), upd_ne (Ne.symm ncP), upd_same]
    refine h (.ref c') _ { s with heap := h', toks := tk } I3 ⟨⟨ps, _, hP, atP, htr', fun pos cv e => ?_⟩, fun b o hb e => ?_, nl.1⟩ ⟨_, atP, ?_⟩ (fun b o hb e => hx b o hb e) fun b hb hbP => ?_
    · rw [hl] at e
      rcases LamX.among_app _ htr e with z | z
      · exact .inl z
      · rw [z]; exact .inr good
    · have hlt : b < s.heap.objs.size := I.hok.lt e
      rw [upd_ne (fun z => Nat.lt_irrefl _ (Nat.lt_of_lt_of_le hlt (by rw [z]; exact hgP))), upd_ne (fun z => Nat.lt_irrefl _ (Nat.lt_of_lt_of_le hlt (by rw [z]; exact hge))), upd_ne hb]
      exact e
    · rw [hl]
      exact codeAmong_snoc _ htr hf
    · rw [upd_ne (fun z => Nat.lt_irrefl _ (Nat.lt_of_lt_of_le hb (by rw [z]; exact hgP))), upd_ne (fun z => Nat.lt_irrefl _ (Nat.lt_of_lt_of_le hb (by rw [z]; exact hge))), upd_ne hbP]
theorem eval_genN (elt target iter : Expr) (ifs : List Expr) (more : List Comprehension) (scope : Scope) (pos : Pos) (env : Env) (hco : scope.isCoroutine = false) :
    eval (.GeneratorExp elt (⟨target, iter, ifs, 0⟩ :: more) scope pos) env = (do
      let x ← eval iter env
      standAt iter.pos
      let x ← genFold iter env x
      let it ← holding [x] (pyIter x)
      enterFrame
      let cl ← closureFor scope env
      let code ← genexprCode env pos (env.qual ++ "<genexpr>") scope
      let bi ← builtinsFor env.globals env.builtins
      let cenv ← newFunctionEnv scope env.globals cl [(".0", it)] (env.qual ++ "<genexpr>.") none code none bi
      newGenerator (.compStart (.GeneratorExp elt (⟨target, iter, ifs, 0⟩ :: more) scope pos) 0 it .none cenv) "<genexpr>" (env.qual ++ "<genexpr>")) := by
  rw [arm_eval_GeneratorExp]
  simp only [hco, Bool.false_eq_true, if_false]
  cases iter <;> rfl
/-- a generator's frame: its cells laid behind the closure's, its iterator bound -/
theorem new_envC {M : Model} {A : Around} {E : Value → Shared → Prop} {s : Shared} {scope : Scope} {globals : Addr} {cl : List (Str × Addr)} {it : Value} {qual : Str} {code : Value} {bi : Addr} {Q : Env → Shared → Prop} (h0 : scope.names.lookup (".0" : Str) = some NameKind.local) (hk : scope.kind = .function)
    (hQ : ∀ h', h'.Ns s.heap.objs.size (fun y => if y = (".0" : Str) then some it else none) → Heap.SameBut s.heap.objs.size (pushCells (s.heap.push { cls := .type "frame", data := .dict #[] }) scope.names) h' →
      Q { scope, locals := s.heap.objs.size, globals, cells := cellsFrom (s.heap.objs.size + 1) scope.names cl, qual, func := none, code, frame := some s.heap.objs.size, builtins := bi } { s with heap := h', toks := s.toks + 1 }) :
    wpAny M A (newFunctionEnv scope globals cl [((".0" : Str), it)] qual none code none bi) Q E s := by
  simp only [newFunctionEnv, Option.isSome_none, Bool.false_eq_true, if_false]
  refine wpAny_bind (wpAny_alloc ?_)
  refine wpAny_bind (wpAny_layCells _ (fun name kind cells => by cases hkc : kind == NameKind.cell <;> simp [hkc]) _ _ _ _ ?_)
  rw [show ({ s with heap := s.heap.push { cls := .type "frame", data := .dict #[] } } : Shared).heap.objs.size = s.heap.objs.size + 1 from Heap.size_push ..]
  have ns0 : (pushCells (s.heap.push { cls := .type "frame", data := .dict #[] }) scope.names).Ns s.heap.objs.size (fun _ => none) := (Heap.Ns.new s.heap (.type "frame")).keeps (pushCells_keeps _ _)
  refine wpAny_bind ?_
  rw [List.forIn_cons]
  refine wpAny_bind (wpAny_bind (wpAny_storeName_local (env := { scope, locals := s.heap.objs.size, globals, cells := cellsFrom (s.heap.objs.size + 1) scope.names cl, qual, func := none, code, frame := some s.heap.objs.size, builtins := bi }) h0 ns0 (fun h' hn' hs' => wpAny_pure ?_) (by show (scope.kind == .class || (scope.kind == .module && _)) = false; rw [hk]; rfl)))
  show wpAny _ _ (forIn ([] : List (Str × Value)) _ _) _ _ _
  rw [List.forIn_nil]
  exact wpAny_pure (wpAny_pure (hQ h' hn' hs'))
theorem wp_gen_makeN {M : Model} {A : Around} {E : Value → Shared → Prop} {s : Shared} {env : Env} {elt target iter : Expr} {ifs : List Expr} {more : List Comprehension} {scope : Scope} {cl : List (Str × Addr)} {pos : Pos} {Q : Value → Shared → Prop}
    (hco : scope.isCoroutine = false) (hclos : closureFor scope env = pure cl) (h0 : scope.names.lookup (".0" : Str) = some NameKind.local) (hkind : scope.kind = .function)
    (hroom : A.depth < recursionLimit)
    (h : wpAny M A (eval iter env) (fun xv s₁ => wpAny M A (pyIter xv) (fun it s₂ => s₂.heap.NoLimit ∧
      wpAny M A (genexprCode env pos (env.qual ++ "<genexpr>") scope) (fun code s₃ => wpAny M A (builtinsFor env.globals env.builtins) (fun bi s₄ =>
        ∀ h', h'.Ns s₄.heap.objs.size (fun y => if y = ".0" then some it else none) → Heap.SameBut s₄.heap.objs.size (pushCells (s₄.heap.push { cls := .type "frame", data := .dict #[] }) scope.names) h' →
          Q (.ref h'.objs.size) { s₄ with
            gens := s₄.gens.push (.fresh (.compStart (.GeneratorExp elt (⟨target, iter, ifs, 0⟩ :: more) scope pos) 0 it .none (genEnv scope (cellsFrom (s₄.heap.objs.size + 1) scope.names cl) s₄.heap.objs.size code bi env))),
            toks := s₄.toks + 1 + 1 + 1,
            heap := h'.push { cls := .type "generator", data := .fields #[.int s₄.gens.size 0, .str "<genexpr>" (s₄.toks + 1), .str (env.qual ++ "<genexpr>") (s₄.toks + 1 + 1)] } }) E s₃) E s₂) E s₁) E s)
    (hs : ∀ x, genFold iter env x = pure x) :
    wpAny M A (eval (.GeneratorExp elt (⟨target, iter, ifs, 0⟩ :: more) scope pos) env) Q E s := by
  rw [eval_genN _ _ _ _ _ _ _ _ hco, hclos]
  refine wpAny_bind (wpAny_mono h (fun xv s₁ h₁ => ?_) fun _ _ e => e)
  refine wpAny_bind (wpAny_standAt ?_)
  refine wpAny_bind (wpAny_of_eq (hs xv) ?_)
  refine wpAny_bind (wpAny_holding (wpAny_mono h₁ (fun it s₂ h₂ => ?_) fun _ _ e => e))
  refine wpAny_bind (wpAny_enterFrame h₂.1 hroom ?_)
  refine wpAny_bind (wpAny_pure ?_)
  refine wpAny_bind (wpAny_mono h₂.2 (fun code s₃ h₃ => ?_) fun _ _ e => e)
  refine wpAny_bind (wpAny_mono h₃ (fun bi s₄ h₄ => ?_) fun _ _ e => e)
  refine wpAny_bind (new_envC h0 hkind fun h' hn' hs' => ?_)
  simp only [newGenerator, newFields]
  refine wpAny_bind (wpAny_newGen (wpAny_bind (wpAny_mkText (wpAny_bind (wpAny_mkText (wpAny_newObj_type ?_ (by size_fits)))))))
  exact h₄ h' hn' hs'
/-- a generator has been made: its context G, what it walks (J), its object at a, its number gn -/
structure Made (X : Cx) (B : Around) (pins : List (Addr × Obj)) (σ σw : L2.St) (e tg : Expr) (scope : Scope) (code : Value) (G : Cx) (J : It) (H3 : Hp) (it a : Addr) (fp : List Addr) (tn : Nat → Heap → Prop) (gn : Nat) (s5 : Shared) : Prop where
  made : ∃ (s : Shared) (H : Hp) (C : Addr) (cl : List (Str × Addr)) (bi : Addr) (pn : List (Addr × Obj)), G = gblkB X B s H (genEnv scope cl C code bi X.env) fp pn
  pn : ∀ p ∈ G.pn, p.1 ∉ fp ∧ p.1 < s5.heap.objs.size
  turn : Turn X.prog X.w X.K tg J fp it tn
  inv : Inv G [] σw H3 s5
  gen : s5.gens[gn]? = some (.fresh (.compStart e 0 (.ref it) .none G.env))
  st : tn 0 s5.heap
  fr : ∀ b ∈ fp, H3 b = none ∧ b < s5.heap.objs.size
  isg : ∀ pins' σ' s1 H1, Inv G pins' σ' H1 s1 → s1.heap.IsGen a gn
  back : ∀ pins' σ' s1 H1, Inv G pins' σ' H1 s1 → Inv X pins σ H1 s1
  apart : ∀ S, s5.heap.objs.size ≤ S → Apart G S
  alt : a < s5.heap.objs.size
theorem gen_made {c P P0 : Addr} {B : Around} {elt tg iter : Expr} {ifs : List Expr} {more : List Comprehension} {scope : Scope} {own : List (Str × Nat)} {gpos : Pos} {wi : L2.TI} {R0 : It → Hp → Prop} {Q' : Value → Shared → Prop} {k : Nat}
    (hN : X.N.Nodup) (hr : Room k X.A) (hBf : B.frames = some X.stack) (hBh : X.calm = true → B.handled = none) (bm : X.base.BuiltinsAt X.mg P0) (hcode : X.env.code = .ref c) (ok : GOk X.N X.env.scope scope own) (hi : PI X tg iter wi)
    (hs : ∀ v, genFold iter X.env v = pure v) (I : Inv X pins σ H s) (h : wi σ H R0)
    (hcd : ∀ J H2 s2, R0 J H2 → Inv X pins σ H2 s2 → PySem.W.CodeHd s2.heap c P ∧ ∃ ps : Array Value, H2 P = some (.tbl ps) ∧ TOk H2 P ps.toList)
    (hQ : ∀ J H2 H3 code G it a fp tn gn s5, R0 J H2 → TabbedN P H2 H3 → CodeAt H3 P gpos code → Made X B pins σ (wipe σ (own.map (·.2))) (.GeneratorExp elt (⟨tg, iter, ifs, 0⟩ :: more) scope gpos) tg scope code G J H3 it a fp tn gn s5 → Q' (.ref a) s5) :
    wpAny (model X.prog X.w) X.A (eval (.GeneratorExp elt (⟨tg, iter, ifs, 0⟩ :: more) scope gpos) X.env) Q' X.xe s := by
  have hfree : ∀ y ∈ scope.names, y.2 = .free → ∃ c, X.env.cells.lookup y.1 = some c := fun y hy e => by
    rcases ok.blk.free y hy e with k | k
    · exact I.ok.has _ (.inl k)
    · exact I.ok.has _ (.inr k)
  refine wp_gen_makeN ok.co (closure_ok hfree) ok.dot ok.blk.kind (by have := hr.dp; omega) ?_ hs
  refine thn (hi.run pins s σ H _ I h) fun xv s1 hx => thn hx fun itv s2 h2 => ?_
  obtain ⟨it, fp, tn, J, H2, e, I2, T, st2, f2, q⟩ := h2
  subst e
  refine ⟨I2.nolimit, ?_⟩
  obtain ⟨cd, ps, hP, htr⟩ := hcd J H2 s2 q I2
  refine gen_code I2 hcode cd hP htr fun code H3 s3 I3 hT hcA keep3 same3 => ?_
  obtain ⟨bm, ob, e1, e2, e3, e4, e5, e6, e7, e8⟩ := bm
  refine wpAny_builtinsFor (m := X.mg) (by rw [I3.ok.glob]; exact I3.mod.glob.keeps I3.bk) e1 e2 (I3.bk _ _ e5) e6 e7 e8 ?_
  intro h' hn' hs'
  have nP : ∀ b ∈ fp, b ≠ P := fun b hb z => by
    have := (f2 b hb).1
    rw [z, hP] at this
    cases this
  have st3 : tn 0 s3.heap := T.keep _ _ _ st2 fun b hb o e => keep3 b o (nP b hb) e
  have f3 : ∀ b ∈ fp, FpOk X pins H3 b ∧ b < s3.heap.objs.size := fun b hb => by
    refine ⟨⟨?_, (f2 b hb).2⟩, ?_⟩
    · obtain ⟨o, e, _⟩ := T.obj _ _ st2 b hb
      rw [same3 b (Heap.lt_size e) (nP b hb)]
      exact (f2 b hb).1
    · obtain ⟨o, e, _⟩ := T.obj _ _ st3 b hb
      exact Heap.lt_size e
  have hsz : s3.heap.objs.size + 1 ≤ h'.objs.size := by
    have q := pushCells_size scope.names (s3.heap.push { cls := .type "frame", data := .dict #[] })
    rw [Heap.size_push] at q
    rw [hs'.1]
    exact q
  generalize hgo : ({ cls := .type "generator", data := .fields #[.int s3.gens.size 0, .str "<genexpr>" (s3.toks + 1), .str (X.env.qual ++ "<genexpr>") (s3.toks + 1 + 1)] } : Obj) = go
  have hgd : go.data = .fields #[.int s3.gens.size 0, .str "<genexpr>" (s3.toks + 1), .str (X.env.qual ++ "<genexpr>") (s3.toks + 1 + 1)] := by rw [← hgo]
  have I5 := gen_start (B := B) (code := code) (it := .ref it) (h' := h') (go := go) (g' := s3.gens.push (.fresh (.compStart (.GeneratorExp elt (⟨tg, iter, ifs, 0⟩ :: more) scope gpos) 0 (.ref it) .none (genEnv scope (cellsFrom (s3.heap.objs.size + 1) scope.names (cloFrom X.env.cells scope.names [])) s3.heap.objs.size code builtinsNs X.env)))) (tk := s3.toks + 1 + 1 + 1)
    hBf hBh I3 ok hN f3 hn' hs' (I3.bare.push rfl) (fun v z => by rw [hgd] at z; cases z) (by rw [← hgo]; rfl)
  have kp5 : ∀ b o, s3.heap.get? b = some o → (h'.push go).get? b = some o := fun b o e => Heap.get?_push_of_some _ (hs'.extBut b o (Nat.ne_of_lt (Heap.lt_size e)) (pushCells_keeps _ _ _ _ (Heap.get?_push_of_some _ e)))
  have sz5 : (h'.push go).objs.size = h'.objs.size + 1 := Heap.size_push ..
  refine hQ J H2 H3 code (gblkB X B s3 H3 (genEnv scope (cellsFrom (s3.heap.objs.size + 1) scope.names (cloFrom X.env.cells scope.names [])) s3.heap.objs.size code builtinsNs X.env) fp [(h'.objs.size, go)]) it h'.objs.size fp tn s3.gens.size _ q hT hcA
    ⟨⟨_, _, _, _, _, _, rfl⟩, fun p hp => ?_, T, I5, Array.getElem?_push_size .., T.keep _ _ _ st3 fun b _ o e => kp5 b o e, fun b hb => ⟨(f3 b hb).1.1, ?_⟩, fun pins' σ' s1 H1 I1 => ?_, fun pins' σ' s1 H1 I1 => ?_, fun S hS => ?_, ?_⟩
  · have hp : p ∈ [(h'.objs.size, go)] := hp
    simp only [List.mem_singleton] at hp
    subst hp
    refine ⟨fun hb => ?_, ?_⟩
    · have h9 : (h'.objs.size : Nat) < s3.heap.objs.size := (f3 _ hb).2
      omega
    · show h'.objs.size < (h'.push go).objs.size
      rw [sz5]; exact Nat.lt_succ_self _
  · show b < (h'.push go).objs.size
    have h8 : b < s3.heap.objs.size := (f3 b hb).2
    rw [sz5]; exact Nat.lt_of_lt_of_le h8 (Nat.le_trans (Nat.le_succ _) (Nat.le_trans hsz (Nat.le_succ _)))
  · have hp := (I1.pin (h'.objs.size, go) (by simp)).1
    exact ⟨go, _, _, hp, by rw [← hgo], hgd, by rw [← hgo]⟩
  · exact I3.call' (ch := fp) I1.os I1.base I1.hok I1.bare fun b hb => ⟨(f3 b hb).1.2.2.2.1, (f3 b hb).1.2.1, (f3 b hb).1.2.2.2.2.1, (f3 b hb).1.2.2.2.2.2⟩
  · have hS : (h'.push go).objs.size ≤ S := hS
    refine ⟨?_, ?_, fun x c e z => ?_⟩
    · show s3.heap.objs.size ≤ S
      rw [sz5] at hS
      exact Nat.le_trans (Nat.le_succ _) (Nat.le_trans hsz (Nat.le_trans (Nat.le_succ _) hS))
    · show S ≠ s3.heap.objs.size
      rw [sz5] at hS
      exact Nat.ne_of_gt (Nat.lt_of_lt_of_le hsz (Nat.le_trans (Nat.le_succ _) hS))
    · obtain ⟨v, qz⟩ := I5.cell x c e
      have h1 : c < (h'.push go).objs.size := qz.lt
      rw [z] at h1
      exact Nat.lt_irrefl _ (Nat.lt_of_lt_of_le h1 hS)
  · show h'.objs.size < (h'.push go).objs.size
    rw [sz5]; exact Nat.lt_succ_self _
/-- the maker's code object stands in the base -/
theorem base_code {c P : Addr} {R0 : It → Hp → Prop} (TB : TabB X.base X.mg c P) (hR : ∀ J H2, R0 J H2 → TabN H2 P) : ∀ J H2 s2, R0 J H2 → Inv X pins σ H2 s2 → PySem.W.CodeHd s2.heap c P ∧ ∃ ps : Array Value, H2 P = some (.tbl ps) ∧ TOk H2 P ps.toList := fun J H2 s2 q I2 =>
  ⟨TB.code.keeps fun b u e => I2.bk b u e, let ⟨ps, a, b, _⟩ := hR J H2 q; ⟨ps, a, b⟩⟩
theorem held_made {G : Cx} {elt tg iter : Expr} {ifs : List Expr} {scope : Scope} {own : List (Str × Nat)} {gpos : Pos} {code : Value} {J : It} {H3 : Hp} {it a : Addr} {fp : List Addr} {tn : Nat → Heap → Prop} {gn : Nat} {s5 : Shared} {g : TG} {tt : TT} {te : TE} {b₀ : Bool} {Q : VK}
    (hc : X.calm = true) (hco : scope.isCoroutine = false)
    (hg : ∀ (s : Shared) (H : Hp) (C : Addr) (cl : List (Str × Addr)) (code : Value) (bi : Addr) (fp : List Addr) (pn : List (Addr × Obj)), PG (gblk X s H (genEnv scope cl C code bi X.env) fp pn) tg g)
    (ht : ∀ (s : Shared) (H : Hp) (C : Addr) (cl : List (Str × Addr)) (code : Value) (bi : Addr) (fp : List Addr) (pn : List (Addr × Obj)), PTs (gblk X s H (genEnv scope cl C code bi X.env) fp pn) ifs tt)
    (he : ∀ (s : Shared) (H : Hp) (C : Addr) (cl : List (Str × Addr)) (code : Value) (bi : Addr) (fp : List Addr) (pn : List (Addr × Obj)), PE (gblk X s H (genEnv scope cl C code bi X.env) fp pn) elt te)
    (M : Made X X.A.in1.in1 pins σ (wipe σ (own.map (·.2))) (.GeneratorExp elt [⟨tg, iter, ifs, 0⟩] scope gpos) tg scope code G J H3 it a fp tn gn s5) (q : AllLoop b₀ g tt te (own.map (·.2)) σ Q J H3) : ∃ n, Held G (wipe σ (own.map (·.2))) b₀ Q X.A.in1.in1 a gn n s5 := by
  obtain ⟨⟨s, Hs, C, cl, bi, pn, rfl⟩, pn1, T, I5, hgen, st5, fr5, isg, back, _, _⟩ := M
  obtain ⟨W, ⟨m0, w0⟩, turn⟩ := q
  refine ⟨m0 + 1, isg _ _ _ _ I5, I5.nolimit, _, hgen, rfl, ?_⟩
  refine seg_genStart (G := gblk X s Hs (genEnv scope cl C code bi X.env) fp pn) T st5 ?_
  exact seg_gen (G := gblk X s Hs (genEnv scope cl C code bi X.env) fp pn) (W := W) rfl rfl hc hco rfl (fun p hp => (pn1 p hp).1) T (hg ..) (ht ..) (he ..) turn m0 (m0 + 1) 0 H3 _ _ (Nat.lt_succ_self _) (inv_gens I5 rfl rfl (bare_set I5.bare rfl)) st5 (fun b hb => (fr5 b hb).1) w0
theorem pe_allG {c P : Addr} {elt tg iter : Expr} {ifs : List Expr} {scope : Scope} {own : List (Str × Nat)} {p pos gpos : Pos} {wi : L2.TI} {g : TG} {tt : TT} {te : TE} {k : Nat}
    (hc : X.calm = true) (hN : X.N.Nodup) (hr : Room k X.A) (hgl : Gl X "all") (hm : X.mg "all" = none) (TB : TabB X.base X.mg c P) (hcode : X.env.code = .ref c) (ok : GOk X.N X.env.scope scope own) (hi : PI X tg iter wi)
    (hg : ∀ (s : Shared) (H : Hp) (C : Addr) (cl : List (Str × Addr)) (code : Value) (bi : Addr) (fp : List Addr) (pn : List (Addr × Obj)), PG (gblk X s H (genEnv scope cl C code bi X.env) fp pn) tg g)
    (ht : ∀ (s : Shared) (H : Hp) (C : Addr) (cl : List (Str × Addr)) (code : Value) (bi : Addr) (fp : List Addr) (pn : List (Addr × Obj)), PTs (gblk X s H (genEnv scope cl C code bi X.env) fp pn) ifs tt)
    (he : ∀ (s : Shared) (H : Hp) (C : Addr) (cl : List (Str × Addr)) (code : Value) (bi : Addr) (fp : List Addr) (pn : List (Addr × Obj)), PE (gblk X s H (genEnv scope cl C code bi X.env) fp pn) elt te)
    (hs : ∀ v, genFold iter X.env v = pure v := by intro _; rfl)
    (hst : starEach [.GeneratorExp elt [⟨tg, iter, ifs, 0⟩] scope gpos] X.env = (false, eval (.GeneratorExp elt [⟨tg, iter, ifs, 0⟩] scope gpos) X.env) :: starEach [] X.env := by rfl) :
    PE X (.Call (.Name "all" p) [.GeneratorExp elt [⟨tg, iter, ifs, 0⟩] scope gpos] [] pos) (tAllG false P wi g tt te (own.map (·.2))) := by
  refine ⟨fun pins s σ H Q I h => ?_⟩
  refine wpAny_Call_Name_kw (ld_blt I hgl hm (show bootBuiltins "all" = some (.builtin "all") by decide +kernel) ?_)
  refine PyProof.Rows.callWith_builtin1 ?_ hst (by rfl)
  rw [hst]
  show wpAny _ _ (spliced ((false, eval (.GeneratorExp elt [⟨tg, iter, ifs, 0⟩] scope gpos) X.env) :: backTo pos (starEach [] X.env))) _ _ s
  refine Calls.spliced_cons (gen_made (B := X.A.in1.in1) (R0 := fun J H1 => TabN H1 P ∧ ∀ H2, TabbedN P H1 H2 → AllLoop false g tt te (own.map Prod.snd) σ Q J H2) hN hr I.ok.frames I.ok.hd TB.bm hcode ok hi hs I h (base_code TB fun J H2 q => q.1) fun J H2 H3 code G it a fp tn gn s5 qq hT hcA M => ?_)
  obtain ⟨n, hh⟩ := held_made hc ok.co hg ht he M (qq.2 H3 hT)
  have eP : G.prog = X.prog := by obtain ⟨⟨_, _, _, _, _, _, e⟩, _⟩ := M; rw [e]
  have eW : G.w = X.w := by obtain ⟨⟨_, _, _, _, _, _, e⟩, _⟩ := M; rw [e]
  refine Calls.spliced_nil ?_
  refine call_function_tree F.kind_all F.plain_all F.entry_all (F.args_all1 _) ?_
  unfold Builtin.«all»
  refine wpAny_bind (m := oneArg "all" _) (wpAny_pure ?_)
  refine wpAny_bind (wpAny_pyIter_gen hh.1 ?_)
  rw [← eP, ← eW]
  exact wpAny_pure ⟨plainId_quiet F.plain_all_loop _, all_loop (A := X.A) hr.hd (by have := hr.dp; omega) (fun s1 H1 I1 => M.isg _ _ s1 H1 I1) (fun c s1 H1 I1 q => ⟨.bl c, H1, M.back _ _ s1 H1 I1, rfl, q⟩) n s5 hh⟩
end
end GX
set_option maxHeartbeats 4000000
namespace GX
open PySem PySem.Spec PyProof.Rows L2 GxR GenW
variable [LamTab]
section
variable {X : Cx} {pins : List (Addr × Obj)} {σ : L2.St} {H : Hp} {s : Shared}
/-- the loop over what J walks, ys: what is out -/
def ColLoop (g : TG) (tt : TT) (te : TE) (vs : List Nat) (σ : L2.St) (QE : List V → Hp → Prop) (J : It) (H2 : Hp) : Prop :=
  ∃ W : Nat → Nat → List V → Hp → Prop, (∃ m, W 0 m [] H2) ∧ ∀ i m ys H, W i m ys H → (J.stop i H ∧ QE ys H) ∨ (J.go i H ∧ ∃ Nx : List V → Hp → Prop, (∀ ys' H', Nx ys' H' → ∃ m', m' < m ∧ W (i + 1) m' ys' H') ∧ ∀ x H', J.yld i H x H' →
    g x (wipe σ vs) H' fun σ2 H2 => wipe σ2 vs = wipe σ vs ∧ tt σ2 H2 fun b H3 => if b = true then te σ2 H3 fun y H4 => ys.length < sizeLine ∧ Nx (ys ++ [y]) H4 else Nx ys H3)
def gRT (G : Cx) (S : Addr) (σw : L2.St) (QE : List V → Hp → Prop) : Nat → Shared → Shared → Prop := fun _ _ s1 => ∃ ys H1, GI G S [] ys σw H1 s1 ∧ QE ys H1
def gYT (G : Cx) (S : Addr) (σw : L2.St) : Protocol := fun _ _ v s1 kap => ∃ ys x H1, RelV x v ∧ ys.length < sizeLine ∧ GI G S [] ys σw H1 s1 ∧ ∀ s', Slept S v s1 s' → kap (.send .none) s'
theorem seg_genT {G : Cx} {A : Around} {S : Addr} {elt tg iter : Expr} {ifs : List Expr} {scope : Scope} {pos : Pos} {it : Addr} {fp : List Addr} {tn : Nat → Heap → Prop} {J : It} {g : TG} {tt : TT} {te : TE} {vs : List Nat} {σ0 : L2.St} {QE : List V → Hp → Prop} {W : Nat → Nat → List V → Hp → Prop}
    (hA : G.A = A.deeper G.env) (hxe : G.xe = fun _ _ => False) (hc : G.calm = true) (hco : G.env.scope.isCoroutine = false) (hex : G.ex = fp) (hpn : ∀ p ∈ G.pn, p.1 ∉ fp ∧ p.1 ≠ S) (hSf : S ∉ fp) (hAp : Apart G S)
    (T : Turn G.prog G.w G.K tg J fp it tn) (pg : PG G tg g) (pt : PTs G ifs tt) (pe : PE G elt te)
    (turn : ∀ i m ys H, W i m ys H → (J.stop i H ∧ QE ys H) ∨ (J.go i H ∧ ∃ Nx : List V → Hp → Prop, (∀ ys' H', Nx ys' H' → ∃ m', m' < m ∧ W (i + 1) m' ys' H') ∧ ∀ x H', J.yld i H x H' →
      g x (wipe σ0 vs) H' fun σ2 H2 => wipe σ2 vs = wipe σ0 vs ∧ tt σ2 H2 fun b H3 => if b = true then te σ2 H3 fun y H4 => ys.length < sizeLine ∧ Nx (ys ++ [y]) H4 else Nx ys H3)) :
    ∀ (m n i : Nat) (ys : List V) (H' : Hp) (s₀ s : Shared), m < n → GI G S [] ys (wipe σ0 vs) H' s → tn i s.heap → (∀ b ∈ fp, H' b = none) → W i m ys H' →
      Seg (model G.prog G.w) A (fun n s₀ r s₁ => r = .ok .next ∧ gRT G S (wipe σ0 vs) QE n s₀ s₁) (gYT G S (wipe σ0 vs)) n s₀ (.compLoop (.GeneratorExp elt [⟨tg, iter, ifs, 0⟩] scope pos) 0 (.ref it) .none G.env)
        ((model G.prog G.w).den (.compLoop (.GeneratorExp elt [⟨tg, iter, ifs, 0⟩] scope pos) 0 (.ref it) .none G.env)) [] s := by
  have stat : ∀ {σ' : L2.St} {H' : Hp} {s' : Shared} {o : Obj}, Inv G [(S, o)] σ' H' s' → (∀ b ∈ fp, H' b = none) → ∀ b ∈ fp, FpOk G [(S, o)] H' b := fun {σ' H' s' o} I' hn b hb =>
    ⟨hn b hb, (I'.ok.exf b (by rw [hex]; exact hb)).1, I'.ok.exfs b (by rw [hex]; exact hb), .inl (by rw [hex]; exact hb), fun x c e => (I'.ok.exf b (by rw [hex]; exact hb)).2 x c e, fun p hp => by
      rcases List.mem_append.mp hp with hp | hp
      · exact fun z => (hpn p hp).1 (by rw [z]; exact hb)
      · rw [List.mem_singleton.mp hp]
        exact fun z : S = b => hSf (z ▸ hb)⟩
  have hov : A.over (.compLoop (.GeneratorExp elt [⟨tg, iter, ifs, 0⟩] scope pos) 0 (.ref it) .none G.env) [] = G.A := by rw [hA]; exact over_gen
  intro m
  induction m using Nat.strongRecOn with
  | ind m ih =>
  intro n i ys H5 s₀ s5 hmn GI5 st5 n5 w5
  obtain ⟨acc, c, rv, I5⟩ := GI5
  show Seg _ A _ _ _ s₀ _ ((compTurn (.GeneratorExp elt [⟨tg, iter, ifs, 0⟩] scope pos) 0 (.ref it) .none G.env).onRaise (leaving G.env)) [] s5
  rw [compTurn_gen, Sem.onRaise_eq_wrap]
  refine seg_bind_wrap (wpAny_standAt ?_)
  rcases turn i m ys H5 w5 with ⟨stop, qq⟩ | ⟨go, Nx, hNx, step⟩
  · refine seg_bind_wrap ?_
    rw [hov]
    refine thnF (T.done G rfl rfl rfl hc i _ s5 _ H5 (fun _ _ => False) I5 (stat I5 n5) st5 stop) fun r s6 ⟨hr, I6⟩ => ?_
    subst hr
    exact seg_end (.ok .next) ⟨rfl, ys, H5, ⟨acc, c, rv, I6⟩, qq⟩
  · refine seg_bind_wrap ?_
    rw [hov]
    refine thnF (T.item G rfl rfl rfl hc i _ s5 _ H5 (fun _ _ => False) I5 (stat I5 n5) st5 go) fun r s6 ⟨u, hr, h6⟩ => ?_
    subst hr
    refine seg_bind_wrap ?_
    rw [hov]
    refine thnF h6 fun _ s7 ⟨x, H7, I7, r7, y7, st7, n7⟩ => ?_
    have I7' := I7.pinned (stat I7 n7) (T.obj _ _ st7)
    refine seg_bind_wrap ?_
    rw [hov]
    have pgr := pg.run _ s7 _ H7 x u _ I7' r7 (step x H7 y7)
    rw [hxe] at pgr
    refine thnF pgr fun _ s8 ⟨σ8, H8, I8, hw8, q8⟩ => ?_
    refine seg_bind_wrap ?_
    rw [hov]
    have ptr := pt.run _ s8 σ8 H8 _ I8 q8
    rw [hxe] at ptr
    refine thnF ptr fun b s9 ⟨H9, I9, q9⟩ => ?_
    -- the turn's end
    have fin : ∀ {s' : Shared} {H' : Hp}, Inv G ([(S, lstObj acc c)] ++ pinsAt fp s7.heap) σ8 H' s' → Inv G [(S, lstObj acc c)] (wipe σ0 vs) H' s' ∧ tn (i + 1) s'.heap ∧ (∀ b ∈ fp, H' b = none) := fun {s' H'} I' => by
      have pin' : ∀ b ∈ fp, ∀ o, s7.heap.get? b = some o → s'.heap.get? b = some o ∧ H' b = none := fun b hb o e =>
        let z := I'.pin (b, o) (List.mem_append_right _ (List.mem_append_right _ (mem_pinsAt hb e)))
        ⟨z.1, z.2.1⟩
      have hl : (wipe σ0 vs).length = σ8.length := by rw [← hw8, wipe_length]
      refine ⟨I'.unpinned.weak hl (fun j v e => ?_), T.keep _ _ _ st7 fun b hb o e => (pin' b hb o e).1, fun b hb => ?_⟩
      · rw [← hw8] at e
        exact (wipe_some e).1
      · obtain ⟨o, e, _⟩ := T.obj _ _ st7 b hb
        exact (pin' b hb o e).2
    cases b with
    | false =>
      simp only [Bool.false_eq_true, if_false] at q9 ⊢
      obtain ⟨m', hm, w'⟩ := hNx ys H9 q9
      obtain ⟨f1, f2, f3⟩ := fin I9
      exact seg_again rfl (ih m' hm n (i + 1) ys H9 s₀ s9 (by omega) ⟨acc, c, rv, f1⟩ f2 f3 w')
    | true =>
      simp only [if_true] at q9 ⊢
      have hy : ∀ v, yieldOut G.env v = yieldValue v := fun v => by simp only [yieldOut, hco, Bool.false_eq_true, if_false]
      simp only [hy]
      rw [Sem.bind_eq_wrap', Sem.bind_eq_wrap', Sem.wrap_wrap, Sem.wrap_wrap]
      refine seg_wrap ?_
      rw [hov]
      have per := pe.run _ s9 σ8 H9 _ I9 q9
      rw [hxe] at per
      refine thnF per fun z s10 ⟨yv, H10, I10, r10, hlen, q10⟩ => ?_
      obtain ⟨f1, f2, f3⟩ := fin I10
      obtain ⟨m', hm, w'⟩ := hNx _ H10 q10
      cases n with
      | zero => omega
      | succ n =>
        refine seg_at (seg_yield rfl rfl rfl ⟨ys, yv, H10, r10, hlen, ⟨acc, c, rv, f1⟩, fun s2 z2 => ?_⟩)
        have w2 := GI.woken (ip := []) (fun p hp => (hpn p hp).2) (fun p hp => absurd hp (by simp)) hAp (⟨acc, c, rv, f1⟩ : GI G S [] ys (wipe σ0 vs) H10 s10) r10 z2
        refine seg_again rfl (ih m' hm n (i + 1) _ H10 s2 s2 (by omega) w2 (T.keep _ _ _ f2 fun b hb o e => ?_) f3 w')
        exact z2.keep b o (fun e2 => hSf (e2 ▸ hb)) e
/-- what the collector knows between two items -/
def HeldT (G : Cx) (S : Addr) (σw : L2.St) (QE : List V → Hp → Prop) (A : Around) (a : Addr) (g n : Nat) (s : Shared) : Prop :=
  s.heap.IsGen a g ∧ s.heap.NoLimit ∧ ∃ gs, s.gens[g]? = some gs ∧ gs.Goes (model G.prog G.w) A (fun n s₀ r s₁ => r = .ok .next ∧ gRT G S σw QE n s₀ s₁) (gYT G S σw) n (.send .none) (s.setGen g .running)
theorem gi_gens {G : Cx} {S : Addr} {ys : List V} {σw : L2.St} {H1 : Hp} {s s' : Shared} (h : GI G S [] ys σw H1 s) (hh : s'.heap = s.heap) (ho : s'.os = s.os) (hb : AllBare s'.gens) : GI G S [] ys σw H1 s' := by
  obtain ⟨acc, c, r, I⟩ := h
  exact ⟨acc, c, r, inv_gens I hh ho hb⟩
theorem gi_kept {G : Cx} {S : Addr} {ys : List V} {σw : L2.St} {H1 : Hp} {s : Shared} {h' : Heap} (h : GI G S [] ys σw H1 s) (hk : ∀ b o, s.heap.get? b = some o → h'.get? b = some o) : GI G S [] ys σw H1 { s with heap := h' } := by
  obtain ⟨acc, c, r, I⟩ := h
  exact ⟨acc, c, r, I.kept (h' := h') (t' := s.toks) hk⟩
theorem ext_loopT {G : Cx} {S : Addr} {σw : L2.St} {QE : List V → Hp → Prop} {A : Around} {a : Addr} {g : Nat} {res : Value} {R : Result → Shared → Prop} (hh : A.handled = none) (hd : A.depth < recursionLimit)
    (hg : ∀ pins' s1 H1, Inv G pins' σw H1 s1 → s1.heap.IsGen a g) (hR : ∀ ys s1 H1, GI G S [] ys σw H1 s1 → QE ys H1 → R (.ok (.ret res)) s1) :
    ∀ (n : Nat) (s : Shared), HeldT G S σw QE A.in1.in1 a g n s → codeAny (model G.prog G.w) A (.builtin "list.extend.loop" ⟨[.ref S, .ref a, res], []⟩) R s := by
  intro n
  induction n with
  | zero =>
    intro s ⟨hgen, hl, gs, hgs, hgo⟩
    refine codeAny_builtin F.entry_extend_loop ?_
    rw [Around.under_plainId F.plain_extend_loop _]
    show wpAny _ A.in1 (pyNext (.ref a) >>= _) _ _ s
    refine wpAny_bind (wpAny_pyNext_genexpQ (A := A.in1) (P := gRT G S σw QE) hh hl hd hgen hgs hgo (fun v s1 gs' hb hv => ?_) fun s1 hp h' hk => ?_)
    · obtain ⟨ys, x, H1, rx, hlen, g1, h2⟩ := hv
      obtain ⟨_, _, _, acc, c, _, eS⟩ := g1.at
      obtain ⟨_, _, _, I1⟩ := g1
      exact (h2 _ (Slept.push eS I1.bare)).elim
    · obtain ⟨ys, H1, g1, q1⟩ := hp
      have b1 : AllBare s1.gens := by obtain ⟨_, _, _, I1⟩ := g1; exact I1.bare
      exact wpAny_pure (hR ys _ H1 (gi_gens (s' := { s1.setGen g .finished with heap := h' }) (gi_kept g1 hk) rfl rfl (bare_set b1 rfl)) q1)
  | succ n ih =>
    intro s ⟨hgen, hl, gs, hgs, hgo⟩
    have hgl : g < s.gens.size := (Array.getElem?_eq_some_iff.mp hgs).1
    refine codeAny_builtin F.entry_extend_loop ?_
    rw [Around.under_plainId F.plain_extend_loop _]
    show wpAny _ A.in1 (pyNext (.ref a) >>= _) _ _ s
    refine wpAny_bind (wpAny_gsz (n := g + 1) hgl (wpAny_pyNext_genexpQ (A := A.in1) (P := gRT G S σw QE) hh hl hd hgen hgs hgo (fun v s1 gs' hb hv => ?_) fun s1 hp h' hk => ?_))
    · intro hsz
      obtain ⟨ys, x, H1, rx, hlen, g1, h2⟩ := hv
      obtain ⟨_, _, _, acc, c, rv, eS⟩ := g1.at
      have b1 : AllBare s1.gens := by obtain ⟨_, _, _, I1⟩ := g1; exact I1.bare
      have isg1 : s1.heap.IsGen a g := by obtain ⟨_, _, _, I1⟩ := g1; exact hg _ _ _ I1
      have nol1 : s1.heap.NoLimit := by obtain ⟨_, _, _, I1⟩ := g1; exact I1.nolimit
      have hasz : acc.size = ys.length := by rw [← Array.length_toList, rv.length]
      have hsz1 : g < s1.gens.size := by
        have q : (s1.setGen g gs').gens.size = s1.gens.size := by simp [Shared.setGen]
        have hsz' : g + 1 ≤ (s1.setGen g gs').gens.size := hsz
        omega
      have nSa : S ≠ a := fun z => by
        obtain ⟨o, nm, qn, ho, hcl, _⟩ := isg1
        rw [← z, eS] at ho
        cases ho
        exact absurd (show Value.type "list" = Value.type "generator" from hcl) (by decide)
      show wpAny _ A.in1 (updateSeq S (·.push v) >>= _) _ _ _
      refine wpAny_bind ?_
      refine wpAny_updateSeq eS rfl (wpAny_pure ⟨plainId_quiet F.plain_extend_loop _, ?_⟩) (by rw [hasz]; omega) (by show (acc.push v).size ≤ sizeLine + 1; rw [Array.size_push, hasz]; omega)
      have sl : Slept S v s1 { s1 with gens := (s1.setGen g gs').gens, heap := s1.heap.update S (Obj.mapSeq (·.push v)) } := Slept.push eS (bare_set b1 hb)
      have sl2 : Slept S v s1 ({ s1 with gens := (s1.setGen g gs').gens, heap := s1.heap.update S (Obj.mapSeq (·.push v)) }.setGen g .running) := Slept.push (G := (({ s1 with gens := (s1.setGen g gs').gens } : Shared).setGen g .running).gens) eS (bare_set (s := { s1 with gens := (s1.setGen g gs').gens }) (bare_set b1 hb) rfl)
      have keep3 : ∀ b o, b ≠ S → s1.heap.get? b = some o → (s1.heap.update S (Obj.mapSeq (·.push v))).get? b = some o := fun b o hbS e => (Heap.get?_update_other _ _ (Ne.symm hbS)).trans e
      refine ih { s1.setGen g gs' with heap := s1.heap.update S (Obj.mapSeq (·.push v)) } ⟨?_, ?_, gs', set_at (s := { s1 with heap := s1.heap.update S (Obj.mapSeq (·.push v)) }) hsz1, ?_⟩
      · obtain ⟨o, nm, qn, ho, r⟩ := isg1
        exact ⟨o, nm, qn, keep3 a o (Ne.symm nSa) ho, r⟩
      · obtain ⟨mc, hns, hnn⟩ := nol1
        refine ⟨mc, hns.at' fun o e => keep3 _ o (fun z => ?_) e, hnn⟩
        obtain ⟨ob, es, ep, ho, hdt, _⟩ := hns
        rw [z, eS] at ho
        cases ho
        cases (show Data.seq acc c = Data.dict es ep from hdt)
      · exact h2 _ sl2
    · intro hsz
      obtain ⟨ys, H1, g1, q1⟩ := hp
      have b1 : AllBare s1.gens := by obtain ⟨_, _, _, I1⟩ := g1; exact I1.bare
      exact wpAny_pure (hR ys _ H1 (gi_gens (s' := { s1.setGen g .finished with heap := h' }) (gi_kept g1 hk) rfl rfl (bare_set b1 rfl)) q1)
theorem collectT {A : Around} {G : Cx} {elt tg iter : Expr} {ifs : List Expr} {scope : Scope} {gpos : Pos} {code : Value} {J : It} {H3 : Hp} {it a : Addr} {fp : List Addr} {tn : Nat → Heap → Prop} {gn : Nat} {s5 : Shared} {g : TG} {tt : TT} {te : TE} {vs : List Nat} {QE : List V → Hp → Prop} {Q : List Value → Shared → Prop} {E : Value → Shared → Prop}
    (hc : X.calm = true) (hh : A.handled = none) (hd : A.depth < recursionLimit) (hco : scope.isCoroutine = false)
    (M : Made X A.in1.in1 pins σ (wipe σ vs) (.GeneratorExp elt [⟨tg, iter, ifs, 0⟩] scope gpos) tg scope code G J H3 it a fp tn gn s5) (pg : PG G tg g) (pt : PTs G ifs tt) (pe : PE G elt te) (q : ColLoop g tt te vs σ QE J H3)
    (hQ : ∀ (ys : List V) (acc : Array Value) (s1 : Shared) (H1 : Hp), Inv X pins σ H1 s1 → Vals ys acc.toList → QE ys H1 → Q acc.toList s1) :
    wpAny (model X.prog X.w) A (collect (.ref a)) Q E s5 := by
  obtain ⟨⟨sm, Hs, C, cl, bi, pn, rfl⟩, pn1, T, I5, hgen, st5, fr5, isg, back, apart, alt⟩ := M
  obtain ⟨W, ⟨m0, w0⟩, turn⟩ := q
  have hga : s5.heap.IsGen a gn := isg _ _ _ _ I5
  have hSa : s5.heap.objs.size ≠ a := Nat.ne_of_gt alt
  unfold collect
  refine wpAny_bind (wpAny_runValue (codeAny_builtin F.entry_proto_collect ?_))
  rw [Around.under_plainId F.plain_proto_collect _]
  show wpAny _ A.in1 (newList [] >>= fun l => again (.builtin "list.__iadd__" ⟨[l, .ref a], []⟩)) _ _ s5
  refine wpAny_bind (wpAny_newObj_type ?_)
  refine wpAny_pure ⟨plainId_quiet F.plain_list_iadd _, codeAny_builtin F.entry_list_iadd ?_⟩
  rw [Around.under_plainId F.plain_list_iadd _]
  have up : ∀ (h : Heap) (f : Obj → Obj), (∀ b o, s5.heap.get? b = some o → h.get? b = some o) → ∀ b o, s5.heap.get? b = some o → (h.update s5.heap.objs.size f).get? b = some o := fun h f q b o e =>
    (Heap.get?_update_other _ _ (Ne.symm (Nat.ne_of_lt (Heap.lt_size e)))).trans (q b o e)
  have k1 : ∀ b o, s5.heap.get? b = some o → (s5.heap.push { cls := .type "list", data := .seq ([] : List Value).toArray }).get? b = some o := fun b o e => Heap.get?_push_of_some _ e
  have gty : ∀ {h : Heap}, (∀ b o, s5.heap.get? b = some o → h.get? b = some o) → h.IsGen a gn := fun {h} q => hga.keeps q
  show wpAny _ A.in1 (Builtin.List.listExtendWith (.ref s5.heap.objs.size) (.ref a) (.ref s5.heap.objs.size)) _ _ _
  unfold Builtin.List.listExtendWith
  refine wpAny_bind (wpAny_typeOf (Heap.IsGen.typeIs (s := { s5 with heap := _ }) (gty k1)) ?_)
  have h1 : Builtin.List.listSameRef (.ref s5.heap.objs.size) (.ref a) = false := by simp [Builtin.List.listSameRef, hSa]
  have h2 : (Value.type "generator" == Value.type "list") = false := by decide
  have h3 : (Value.type "generator" == Value.type "tuple") = false := by decide
  simp only [h1, h2, h3, Bool.or_false, Bool.false_eq_true, if_false]
  refine wpAny_bind (wpAny_pyIter_gen (s := { s5 with heap := _ }) (gty k1) ?_)
  refine wpAny_bind (wpAny_holding ?_)
  unfold Builtin.List.listLengthHint
  refine wpAny_bind (wpAny_specialOf (Heap.IsGen.typeIs (s := { s5 with heap := _ }) (gty k1)) F.gen_no_len ?_)
  show wpAny _ A.in1 (specialOf (Value.ref a) (Str.ofString "__length_hint__") >>= _) _ _ _
  refine wpAny_bind (wpAny_specialOf (Heap.IsGen.typeIs (s := { s5 with heap := _ }) (gty k1)) F.gen_no_hint ?_)
  refine wpAny_pure ?_
  show wpAny _ A.in1 (rule "list.extend.makes-room" >>= fun _ => Builtin.List.listTouch (.ref s5.heap.objs.size) >>= fun _ =>
    again (.builtin "list.extend.loop" ⟨[.ref s5.heap.objs.size, .ref a, .ref s5.heap.objs.size], []⟩)) _ _ _
  refine wpAny_bind (wpAny_rule ?_)
  have hS1 : (s5.heap.push { cls := .type "list", data := .seq ([] : List Value).toArray }).get? s5.heap.objs.size = some { cls := .type "list", data := .seq ([] : List Value).toArray } := Heap.get?_push_size _ rfl
  refine wpAny_bind ?_
  show wpAny _ A.in1 (updateSeq s5.heap.objs.size (·.push .none) >>= fun _ => updateSeq s5.heap.objs.size (·.pop)) _ _ _
  refine wpAny_bind (wpAny_updateSeq hS1 rfl ?_)
  have hS2 := Heap.get?_update_self (Obj.mapSeq (·.push Value.none)) hS1 rfl
  refine wpAny_updateSeq hS2 rfl ?_
  obtain ⟨c4, hS3⟩ : ∃ c4, (((s5.heap.push { cls := .type "list", data := .seq ([] : List Value).toArray }).update s5.heap.objs.size (Obj.mapSeq (·.push Value.none))).update s5.heap.objs.size (Obj.mapSeq (·.pop))).get? s5.heap.objs.size = some (lstObj #[] c4) := ⟨_, Heap.get?_update_self (Obj.mapSeq (·.pop)) hS2 rfl⟩
  have k4 := up _ (Obj.mapSeq (·.pop)) (up _ (Obj.mapSeq (·.push Value.none)) k1)
  generalize ((s5.heap.push { cls := .type "list", data := .seq ([] : List Value).toArray }).update s5.heap.objs.size (Obj.mapSeq (·.push Value.none))).update s5.heap.objs.size (Obj.mapSeq (·.pop)) = h4 at hS3 k4
  have fS := I5.fpOk (H' := H3) (Nat.le_refl _) (I5.hok.fresh (Nat.le_refl _))
  have I6 : Inv (gblkB X A.in1.in1 sm Hs (genEnv scope cl C code bi X.env) fp pn) [] (wipe σ vs) H3 { s5 with heap := h4 } := I5.kept (t' := s5.toks) k4
  refine wpAny_pure ⟨plainId_quiet F.plain_extend_loop _, ?_⟩
  refine ext_loopT (G := gblkB X A.in1.in1 sm Hs (genEnv scope cl C code bi X.env) fp pn) (QE := QE) (σw := wipe σ vs) hh hd (fun pins' s1 H1 I1 => isg _ _ s1 H1 I1) (fun ys s1 H1 g1 q1 => ?_) (m0 + 1) { s5 with heap := h4 }
    ⟨gty k4, I5.nolimit.keeps k4, _, hgen, rfl, ?_⟩
  · obtain ⟨_, _, _, acc, c, rv, eS⟩ := g1.at
    obtain ⟨_, _, _, I1⟩ := g1
    show wpAny _ A (load s5.heap.objs.size >>= _) _ _ s1
    refine wpAny_bind (wpAny_load eS ?_)
    exact wpAny_pure (hQ ys acc s1 H1 (back _ _ _ _ I1) rv q1)
  · refine seg_genStart (G := gblkB X A.in1.in1 sm Hs (genEnv scope cl C code bi X.env) fp pn) T (T.keep _ _ _ st5 fun b _ o e => k4 b o e) ?_
    refine seg_genT (G := gblkB X A.in1.in1 sm Hs (genEnv scope cl C code bi X.env) fp pn) (W := W) rfl rfl hc hco rfl (fun p hp => ⟨(pn1 p hp).1, Nat.ne_of_lt (pn1 p hp).2⟩) (fun hb => Nat.lt_irrefl _ (fr5 _ hb).2) (apart _ (Nat.le_refl _)) T pg pt pe turn m0 (m0 + 1) 0 [] H3 _ _ (Nat.lt_succ_self _) ?_ (T.keep _ _ _ st5 fun b _ o e => k4 b o e) (fun b hb => (fr5 b hb).1) w0
    refine ⟨#[], c4, .nil, (inv_gens I6 (s' := ({ s5 with heap := h4 } : Shared).setGen gn .running) rfl rfl (bare_set I6.bare rfl)).pins_of fun p hp => ?_⟩
    rw [List.mem_singleton.mp hp]
    exact ⟨hS3, fS.1, fS.2.1, fS.2.2.1, fun v z => by cases z⟩
end
end GX
set_option maxHeartbeats 4000000
namespace GX
open PySem PySem.Spec PyProof.Rows L2 GxR GenW
end GX
set_option maxHeartbeats 4000000
namespace Pm
open PySem PySem.Spec PyProof.Rows L2 GxR GX
/-- the context of a law: the program, the world, the written part, the module's names, the heap at the entry, the tables of code objects -/
structure Ct where
  P : Program
  w : World
  K : PySem.W.Frag
  mg : Str → Option Value
  base : Heap
  ts : List Addr
variable [LamTab]
def GoodAt (b : Addr) (H : Hp) (cv : Value) : Prop := (∃ q, LamTab.tab b = some q ∧ LamC q H cv) ∨ (LamTab.tab b = none ∧ GoodC H cv)
/-- what was tracked stands; tables may have grown, by good code objects -/
def Gr (H H' : Hp) : Prop := ∀ b o, H b = some o → H' b = some o ∨ ∃ ps ps', o = .tbl ps ∧ H' b = some (.tbl ps') ∧ (TriplesOk ps.toList → TriplesOk ps'.toList) ∧ ∀ (pos : Pos) (cv : Value), codeAmong pos ps'.toList = some cv → codeAmong pos ps.toList = some cv ∨ GoodAt b H' cv
theorem lamC_gr {q : Str} {H H' : Hp} {cv : Value} (g : Gr H H') (h : LamC q H cv) : LamC q H' cv := h.move fun b q e => by
  rcases g b _ e with z | ⟨ps, _, z, _⟩
  · rw [z, e]
  · exact absurd z (LamX.codeO_ne ps)
theorem nl_gr {H H' : Hp} {P : Addr} (n : NL H P) (g : Gr H H') : NL H' P := ⟨n.1, fun p q0 hp => by
  obtain ⟨ps, e, t, k⟩ := n.2 p q0 hp
  rcases g p _ e with q | ⟨ps1, ps', e1, q, t', k'⟩
  · exact ⟨ps, q, t, fun pos cv z => lamC_gr g (k pos cv z)⟩
  · cases e1
    refine ⟨ps', q, t' t, fun pos cv z => ?_⟩
    rcases k' pos cv z with z | z
    · exact lamC_gr g (k pos cv z)
    · rcases z with z | z
      · obtain ⟨q1, hq1, z⟩ := z
        rw [hq1] at hp
        cases hp
        exact z
      · rw [z.1] at hp
        cases hp⟩
theorem goodC_gr {H H' : Hp} {cv : Value} (g : Gr H H') (h : GoodC H cv) : GoodC H' cv := by
  obtain ⟨c, P, qs, rfl, h1, h2, h3, h4⟩ := h
  have h4' := nl_gr h4 g
  have h1' : H' c = some (GenC c P) := by
    rcases g c _ h1 with q | ⟨ps, _, z, _⟩
    · exact q
    · exact absurd z (genC_ne ps)
  rcases g P _ h2 with q | ⟨ps, ps', z, q, t, _⟩
  · exact ⟨c, P, qs, rfl, h1', q, h3, h4'⟩
  · cases z
    exact ⟨c, P, ps', rfl, h1', q, t h3, h4'⟩
theorem goodAt_gr {b : Addr} {H H' : Hp} {cv : Value} (g : Gr H H') (h : GoodAt b H cv) : GoodAt b H' cv := h.imp (fun ⟨q, h⟩ => ⟨q, h.1, lamC_gr g h.2⟩) fun h => ⟨h.1, goodC_gr g h.2⟩
theorem Gr.refl (H : Hp) : Gr H H := fun _ _ e => .inl e
theorem Gr.trans {H H1 H2 : Hp} (a : Gr H H1) (b : Gr H1 H2) : Gr H H2 := fun c o e => by
  rcases a c o e with q | ⟨ps, ps', rfl, q, t, u⟩
  · exact b c o q
  · rcases b c _ q with q2 | ⟨qs, qs', e2, q2, t2, u2⟩
    · exact .inr ⟨ps, ps', rfl, q2, t, fun pos cv z => (u pos cv z).imp id (goodAt_gr b)⟩
    · cases e2
      refine .inr ⟨ps, qs', rfl, q2, fun z => t2 (t z), fun pos cv z => ?_⟩
      rcases u2 pos cv z with z | z
      · exact (u pos cv z).imp id (goodAt_gr b)
      · exact .inr z
theorem Gr.new {H : Hp} {p : Addr} {o : HO} (h : H p = none) : Gr H (upd H p o) := fun b x e => .inl (by rw [upd_ne (ne_of_none e h)]; exact e)
/-- no code object and no table stands there -/
def NoC (H : Hp) (b : Addr) : Prop := ∀ o, H b = some o → (∀ p, o ≠ .ext p) ∧ ∀ ps, o ≠ .tbl ps
theorem NoC.free {H : Hp} {b : Addr} (h : H b = none) : NoC H b := fun o e => by rw [h] at e; cases e
theorem NoC.of {H : Hp} {b : Addr} {u : HO} (h : H b = some u) (h1 : ∀ p, u ≠ .ext p) (h2 : ∀ ps, u ≠ .tbl ps) : NoC H b := fun o e => by
  rw [h] at e; cases e
  exact ⟨h1, h2⟩
theorem NoC.lst {H : Hp} {b : Addr} {xs : List V} (h : H b = some (.lst xs)) : NoC H b := .of h (fun _ z => nomatch z) fun _ z => nomatch z
theorem NoC.tup {H : Hp} {b : Addr} {xs : List V} (h : H b = some (.tup xs)) : NoC H b := .of h (fun _ z => nomatch z) fun _ z => nomatch z
theorem NoC.dK {H : Hp} {b : Addr} {xs : List (Key × V)} (h : H b = some (.dK xs)) : NoC H b := .of h (fun _ z => nomatch z) fun _ z => nomatch z
theorem NoC.ins {H : Hp} {b C dx : Addr} {xs : List (Str × V)} (h : H b = some (.ins C dx xs)) : NoC H b := .of h (fun _ z => nomatch z) fun _ z => nomatch z
theorem NoC.frz {H : Hp} {b : Addr} {o : Obj} {u : HO} (h : H b = some (.frz o u)) : NoC H b := .of h (fun _ z => nomatch z) fun _ z => nomatch z
theorem lamC_put {q : Str} {H : Hp} {D : Addr} {o : HO} {cv : Value} (n : ∀ b q, H b = some (LamX.CodeO b q) → b ≠ D) (h : LamC q H cv) : LamC q (upd H D o) cv := h.move fun b q e => by rw [upd_ne (n b q e)]
theorem nl_put {H : Hp} {P D : Addr} {o : HO} (n : ∀ b q, H b = some (LamX.CodeO b q) → b ≠ D) (n2 : ∀ ps, H D ≠ some (.tbl ps)) (h : NL H P) : NL (upd H D o) P := h.move (fun b q e => by rw [upd_ne (n b q e)]) fun p q ps hp e => by
  rw [upd_ne (fun z => n2 ps (by rw [← z]; exact e))]
theorem NoC.nc {H : Hp} {b : Addr} (n : NoC H b) : ∀ x q, H x = some (LamX.CodeO x q) → x ≠ b := fun x q e z => by rw [z] at e; exact (n _ e).1 _ rfl
theorem NoC.nt {H : Hp} {b : Addr} (n : NoC H b) : ∀ ps, H b ≠ some (.tbl ps) := fun ps e => (n _ e).2 _ rfl
theorem goodC_put {H : Hp} {D : Addr} {o : HO} {cv : Value} (n : NoC H D) (h : GoodC H cv) : GoodC (upd H D o) cv := by
  obtain ⟨c, P, qs, rfl, h1, h2, h3, h4⟩ := h
  have n1 : c ≠ D := fun z => by rw [z] at h1; exact (n _ h1).1 _ rfl
  have n2 : P ≠ D := fun z => by rw [z] at h2; exact (n _ h2).2 _ rfl
  exact ⟨c, P, qs, rfl, by rw [upd_ne n1]; exact h1, by rw [upd_ne n2]; exact h2, h3, nl_put n.nc n.nt h4⟩
theorem goodAt_put {b : Addr} {H : Hp} {D : Addr} {o : HO} {cv : Value} (n : NoC H D) (h : GoodAt b H cv) : GoodAt b (upd H D o) cv := h.imp (fun ⟨q, h⟩ => ⟨q, h.1, lamC_put n.nc h.2⟩) fun h => ⟨h.1, goodC_put n h.2⟩
theorem Gr.keep {H H' : Hp} {b : Addr} {o : HO} (g : Gr H H') (e : H b = some o) (n : ∀ ps, o ≠ .tbl ps) : H' b = some o := by
  rcases g b o e with q | ⟨ps, _, z, _⟩
  · exact q
  · exact absurd z (n ps)
theorem Gr.tup {H H' : Hp} {b : Addr} {xs : List V} (g : Gr H H') (e : H b = some (.tup xs)) : H' b = some (.tup xs) := g.keep e fun _ z => nomatch z
theorem Gr.lst {H H' : Hp} {b : Addr} {xs : List V} (g : Gr H H') (e : H b = some (.lst xs)) : H' b = some (.lst xs) := g.keep e fun _ z => nomatch z
theorem Gr.free {H H' : Hp} {b : Addr} (g : Gr H H') (e : H' b = none) : H b = none := by
  cases q : H b with
  | none => rfl
  | some o =>
    rcases g b o q with z | ⟨_, _, _, z, _⟩ <;> (rw [z] at e; cases e)
theorem Gr.sqT {K : PySem.W.Frag} {H H' : Hp} {a : Addr} {xs : List V} (g : Gr H H') (h : SqT K H a xs) : SqT K H' a xs := by
  rcases h with (h | ⟨o, h⟩) | h
  · exact .inl (.inl (g.tup h))
  · exact .inl (.inr ⟨o, g.keep h fun _ z => nomatch z⟩)
  · exact .inr h
theorem Gr.sqL {K : PySem.W.Frag} {H H' : Hp} {a : Addr} {xs : List V} (g : Gr H H') (h : SqL K H a xs) : SqL K H' a xs := by
  rcases h with (h | ⟨o, h⟩) | h
  · exact .inl (.inl (g.lst h))
  · exact .inl (.inr ⟨o, g.keep h fun _ z => nomatch z⟩)
  · exact .inr h
/-- the table at P has grown, nothing else has changed -/
theorem Gr.tabbedG {H H' : Hp} {P : Addr} (h : TabbedN P H H') : Gr H H' := fun b o e => by
  by_cases hb : b = P
  · obtain ⟨⟨ps, ps', hp, hp', ht', u⟩, _, n⟩ := h
    rw [hb, hp] at e
    cases e
    exact .inr ⟨ps, ps', rfl, by rw [hb]; exact hp', fun _ => ht', fun pos cv z => (u pos cv z).imp id fun z => .inr ⟨by rw [hb]; exact n, z⟩⟩
  · exact .inl (h.2.1 b o hb e)
theorem Gr.tabbed {H H' : Hp} {P : Addr} (t : TabN H P) (h : TabbedN P H H') : Gr H H' := .tabbedG h
/-- the tables are well -/
def Tabs (ts : List Addr) (H : Hp) : Prop := ∀ P ∈ ts, TabN H P
theorem Tabs.gr {ts : List Addr} {H H' : Hp} (t : Tabs ts H) (g : Gr H H') : Tabs ts H' := fun P hP => by
  obtain ⟨ps, hp, ⟨ht, nl⟩, hg⟩ := t P hP
  have nl' := nl_gr nl g
  rcases g P _ hp with q | ⟨qs, qs', e, q, z, u⟩
  · exact ⟨ps, q, ⟨ht, nl'⟩, fun pos cv e => goodC_gr g (hg pos cv e)⟩
  · cases e
    refine ⟨qs', q, ⟨z ht, nl'⟩, fun pos cv e => ?_⟩
    rcases u pos cv e with e | e
    · exact goodC_gr g (hg pos cv e)
    · rcases e with e | e
      · obtain ⟨q1, e1, _⟩ := e
        rw [nl.1] at e1
        cases e1
      · exact e.2
/-- the def st stands under the module's name x; cd: its code object -/
def DefAt (c : Ct) (x : Str) (st : Stmt) (kws : List (Str × V)) (f : Addr) (fd : FuncData) (cd : Addr) : Prop :=
  (∃ (oc : Value) (od : Option Addr) (dV kV doc pm : Value) (an : Option Addr) (ct : Value) (osl : Array (Option Value)),
    fd = PySem.W.fnOf x x (defArgs st) (defBody st) (defScope st) dV kV doc pm an (.ref cd) ct ∧ c.K.lookup f = some ⟨oc, od, .func fd, osl⟩ ∧ PySem.W.codeIn c.K (.ref cd) x = true ∧ DflV c.K dV [] ∧ KwdV c.K kV kws) ∧
  PySem.W.keepIn c.K (.ref f) = true ∧ c.mg x = some (.ref f)
/-- .. without defaults -/
def Df (c : Ct) (x : Str) (st : Stmt) : Prop := ∃ f fd cd, DefAt c x st [] f fd cd
/-- .. with its code object's table -/
def Tf (c : Ct) (x : Str) (st : Stmt) : Prop := ∃ f fd cd tb, DefAt c x st [] f fd cd ∧ TabB c.base c.mg cd tb ∧ tb ∈ c.ts
/-- what the module's name x promises, at the level k -/
def Ok (c : Ct) (x : Str) (k : Nat) (ps : List Str) (sp : Sp) : Prop := ∃ f fd, FnOk c.P c.w c.K c.mg c.base CX0 k f fd ps sp ∧ c.mg x = some (.ref f) ∧ PySem.W.keepIn c.K (.ref f) = true ∧ Binds c.K fd ps []
theorem Ok.mono {c : Ct} {x : Str} {j k : Nat} {ps : List Str} {sp : Sp} (h : Ok c x j ps sp) (hjk : j ≤ k) : Ok c x k ps sp := let ⟨f, fd, F, r⟩ := h; ⟨f, fd, F.mono hjk, r⟩
theorem Ok.imp {c : Ct} {x : Str} {k : Nat} {ps : List Str} {sp sp' : Sp} (h : Ok c x k ps sp) (hi : ∀ vs H Q E, sp' vs H Q E → sp vs H Q E) : Ok c x k ps sp' := let ⟨f, fd, F, r⟩ := h; ⟨f, fd, F.imp hi, r⟩
/-- the frame of a generator expression, by looking -/
theorem gok_by {N : List Str} {sc scope : Scope} {own : List (Str × Nat)} (h : blkC N sc scope own = true) (h1 : scope.isCoroutine = false := by rfl) (h3 : scope.names.lookup (".0" : Str) = some NameKind.local := by rfl) : GOk N sc scope own :=
  ⟨blkOk_by h, h1, h3⟩
end Pm
set_option maxHeartbeats 4000000
namespace Pm
open PySem PySem.Spec PyProof.Rows L2 GxR GX
def topS (i : Nat) : Stmt := PySem.Challenge.pw_passmill_k26_lines_refused.main.body.getD i (.Pass ⟨0, 0, 0, 0⟩)
abbrev s_NoLine_init : Stmt := inClass (topS 2) 0
abbrev s_is_whole : Stmt := topS 6
abbrev s_is_word : Stmt := topS 7
abbrev s_is_pass_name : Stmt := topS 8
abbrev s_read_line : Stmt := topS 12
abbrev s_items_from : Stmt := topS 13
abbrev s_leads_on : Stmt := topS 14
abbrev s_sign_at : Stmt := topS 15
abbrev s_item_from : Stmt := topS 16
abbrev s_name_from : Stmt := topS 17
abbrev s_bracket_from : Stmt := topS 18
abbrev s_line_text : Stmt := topS 19
abbrev s_are_items : Stmt := topS 20
abbrev s_is_item : Stmt := topS 21
abbrev s_text_of : Stmt := topS 22
abbrev s_item_text : Stmt := topS 23
abbrev s_law_pick : Stmt := topS 25
abbrev s_law_always : Stmt := topS 26
abbrev s_law_items : Stmt := topS 27
abbrev s_law_line_of : Stmt := topS 28
abbrev s_law_at : Stmt := topS 29
abbrev s_law : Stmt := topS 30
end Pm
set_option maxHeartbeats 4000000
set_option maxHeartbeats 4000000
namespace Pm
open PySem PySem.Spec PyProof.Rows L2 GxR GX
variable [LamTab]
theorem tyx_sqT {K : PySem.W.Frag} {H : Hp} {a : Addr} {xs : List V} (h : SqT K H a xs) : TyX K H (.ref a) (.type "tuple") := by
  rcases h with (h | ⟨o, h⟩) | ⟨o, its, n, h, hc, _⟩
  · exact .base (.tup h)
  · exact .fTuple h
  · exact .kTuple h hc
theorem tyx_sqL {K : PySem.W.Frag} {H : Hp} {a : Addr} {xs : List V} (h : SqL K H a xs) : TyX K H (.ref a) (.type "list") := by
  rcases h with (h | ⟨o, h⟩) | ⟨o, its, n, h, hc, _⟩
  · exact .base (.lst h)
  · exact .base (.frz h)
  · exact .kList h hc
/-- the answer of isinstance of such data -/
def isS (a b : String) : Bool := a == b || (a == "bool" && b == "int")
theorem kit_all : ∀ a ∈ ["NoneType", "bool", "int", "str", "list", "tuple"], ∀ t ∈ ["bool", "int", "str", "list", "tuple"], kitB a t = some (isS a t) := by decide +kernel
/-- a text is not too long for the model -/
def FitD (d : PyData) : Prop := ∀ x, d = .str x → x.length ≤ sizeLine
end Pm
set_option maxHeartbeats 4000000
namespace Pm
open PySem PySem.Spec PyProof.Rows L2 GxR GX
variable [LamTab]
def stepWords : List Str := ["set", "copy", "add", "sub", "mul", "less", "same", "get", "put"]
def endWords : List Str := ["go", "if", "stop"]
/-- the texts in such data are not too long, n deep -/
def Fit : Nat → PyData → Prop
  | 0, _ => True
  | n + 1, d => FitD d ∧ (∀ ds, d = .tuple ds → ∀ e ∈ ds, Fit n e) ∧ (∀ ds, d = .list ds → ∀ e ∈ ds, Fit n e)
end Pm
set_option maxHeartbeats 4000000
set_option maxHeartbeats 4000000
namespace Pm
open PySem PySem.Spec PyProof.Rows L2 GxR GX
variable [LamTab]
variable {c : Ct}
abbrev FnG (c : Ct) (x : Str) (st : Stmt) (kws : List (Str × V)) : Prop := ∃ fd, FunD c.K x x (defArgs st) (defBody st) (defScope st) [] kws (He.fAd c.K (x, none)) fd
theorem defAt_of {x : Str} {st : Stmt} {kws : List (Str × V)} (F : FnG c x st kws) (hm : c.mg x = some (.ref (He.ga c.K x))) : ∃ fd cd, DefAt c x st kws (He.ga c.K x) fd cd := by
  obtain ⟨fd, ⟨oc, od, dV, kV, doc, pm, an, cdv, ct, osl, rfl, lk, hcd, hD, hK⟩, kp⟩ := F
  obtain ⟨cd, rfl⟩ := He.codeIn_ref hcd
  exact ⟨_, cd, ⟨oc, od, dV, kV, doc, pm, an, ct, osl, rfl, lk, hcd, hD, hK⟩, kp, hm⟩
theorem df_of {x : Str} {st : Stmt} (F : FnG c x st []) (hm : c.mg x = some (.ref (He.ga c.K x))) : Df c x st := let ⟨fd, cd, h⟩ := defAt_of F hm; ⟨_, fd, cd, h⟩
theorem tf_of {x : Str} {st : Stmt} (F : FnG c x st []) (hm : c.mg x = some (.ref (He.ga c.K x))) (T : TabB c.base c.mg (He.cT c.K (x, none)).1 (He.cT c.K (x, none)).2) (ht : (He.cT c.K (x, none)).2 ∈ c.ts) : Tf c x st := by
  obtain ⟨fd, cd, h⟩ := defAt_of F hm
  obtain ⟨⟨oc, od, dV, kV, doc, pm, an, ct, osl, e, lk, _⟩, _⟩ := _root_.id h
  have ec : He.codeOf c.K (x, none) = cd := He.codeOf_eq (p := (x, none)) lk (by rw [e])
  refine ⟨_, fd, cd, _, h, ?_, ht⟩
  rw [← ec]
  exact T
theorem lookup_in {α : Type} {z : Str} {v : α} : ∀ {l : List (Str × α)}, l.lookup z = some v → (z, v) ∈ l
  | [], h => by simp at h
  | (k, u) :: r, h => by
    rw [List.lookup_cons] at h
    cases hb : z == k with
    | true =>
      rw [hb] at h
      rw [eq_of_beq hb, Option.some.inj h]
      exact List.mem_cons_self
    | false =>
      rw [hb] at h
      exact List.mem_cons_of_mem _ (lookup_in h)
abbrev dG (x : Str) (st : Stmt) : He.DefD := ⟨(x, none), x, x, defArgs st, defBody st, defScope st, [], []⟩
end Pm
set_option maxHeartbeats 4000000
namespace Pm
open PySem PySem.Spec PyProof.Rows L2 GxR GX
variable [LamTab]
theorem Gr.put {H H' : Hp} {D : Addr} {o : HO} (g : Gr H H') (n : H D = none) (nc : NoC H' D := by first | exact NoC.lst (by assumption) | exact NoC.free (by assumption) | exact NoC.tup (by assumption) | exact NoC.dK (by assumption) | exact NoC.lst upd_same | exact NoC.tup upd_same | exact NoC.dK upd_same | exact NoC.ins (by assumption) | exact NoC.frz (by assumption)) : Gr H (upd H' D o) := fun b x e => by
  have nb : b ≠ D := ne_of_none e n
  rw [upd_ne nb]
  rcases g b x e with q | ⟨ps, ps', rfl, q, t, u⟩
  · exact .inl q
  · exact .inr ⟨ps, ps', rfl, q, t, fun pos cv z => (u pos cv z).imp id (goodAt_put nc)⟩
end Pm
set_option maxHeartbeats 4000000
namespace Pm
open PySem PySem.Spec PyProof.Rows L2 GxR GX
variable [LamTab]
/-- a key of a dict: an int or a text, or a tuple of such -/
inductive DK where
  | k (x : Key)
  | t (xs : List Key)
  deriving DecidableEq
inductive Dt where
  | non
  | bl (b : Bool)
  | int (i : Int)
  | str (x : Str)
  | tup (xs : List Dt)
  | lst (xs : List Dt)
  | scr (ns : List Int)
  | dic (ks : List DK) (vs : List Dt)
  | dit (ks : List DK) (vs : List Dt)
  | ktp (ks : List Key)
  | ptp (xs : List Dt)
  | fn (x : Str)
  | exc (k : Str)
/-- the exception at a, as it stands -/
def ExO (a : Addr) (oe : Obj) : HO := .ext fun h => h.get? a = some oe
/-- a dict may be read there: its keys and values -/
def DcAt (H : Hp) (a : Addr) (ks : List DK) (vs : List V) : Prop :=
  ∃ kvs : List (Key × V), Rd H a (.dK kvs) ∧ ks = kvs.map (fun p => DK.k p.1) ∧ vs = kvs.map (·.2)
/-- the same of a dict whose keys are tuples -/
def DtAt (H : Hp) (a : Addr) (ks : List DK) (vs : List V) : Prop :=
  ∃ kvs : List (List Key × V), Rd H a (.dT kvs) ∧ ks = kvs.map (fun p => DK.t p.1) ∧ vs = kvs.map (·.2)
mutual
inductive Rep (c : Ct) (H : Hp) : V → Dt → Prop
  | non : Rep c H .non .non
  | bl (b : Bool) : Rep c H (.bl b) (.bl b)
  | int (i : Int) : Rep c H (.int i) (.int i)
  | str (x : Str) : Rep c H (.str x) (.str x)
  | tup {a : Addr} {vs : List V} {ds : List Dt} (s : SqT c.K H a vs) (r : RepAll c H vs ds) : Rep c H (.ref a) (.tup ds)
  | lst {a : Addr} {vs : List V} {ds : List Dt} (s : H a = some (.lst vs)) (r : RepAll c H vs ds) : Rep c H (.ref a) (.lst ds)
  | scr {a : Addr} {ns : List Int} (s : SqL c.K H a (ns.map V.int)) : Rep c H (.ref a) (.scr ns)
  | dic {a : Addr} {ks : List DK} {vs : List V} {ds : List Dt} (s : DcAt H a ks vs) (r : RepAll c H vs ds) : Rep c H (.ref a) (.dic ks ds)
  | dit {a : Addr} {ks : List DK} {vs : List V} {ds : List Dt} (s : DtAt H a ks vs) (r : RepAll c H vs ds) : Rep c H (.ref a) (.dit ks ds)
  | ktp {a : Addr} {ks : List Key} (s : H a = some (.tup (ks.map kV))) : Rep c H (.ref a) (.ktp ks)
  | ptp {a : Addr} {ob : Obj} {vs : List V} {ds : List Dt} (s : H a = some (.frz ob (.tup vs))) (d : ob.dict = none) (r : RepAll c H vs ds) : Rep c H (.ref a) (.ptp ds)
  | fn {x : Str} {f : Addr} (h : c.mg x = some (.ref f)) : Rep c H (.ref f) (.fn x)
  | exc {k : Str} {a C : Addr} {oe : Obj} (m : c.mg k = some (.ref C)) (s : H a = some (ExO a oe) ∨ c.base.get? a = some oe) (z : Zc (.ref C) none oe) (f : ∃ vs, oe.data = .fields vs) : Rep c H (.ref a) (.exc k)
inductive RepAll (c : Ct) (H : Hp) : List V → List Dt → Prop
  | nil : RepAll c H [] []
  | cons {v : V} {d : Dt} {vs : List V} {ds : List Dt} (a : Rep c H v d) (b : RepAll c H vs ds) : RepAll c H (v :: vs) (d :: ds)
end
def Le (H H' : Hp) : Prop := ∀ b o, H b = some o → H' b = some o
theorem Le.gr {H H' : Hp} (h : Le H H') : Gr H H' := fun b o e => .inl (h b o e)
theorem Le.refl (H : Hp) : Le H H := fun _ _ e => e
theorem Gr.rd {H H' : Hp} {a : Addr} {u : HO} (g : Gr H H') (n : ∀ ps, u ≠ .tbl ps) (h : Rd H a u) : Rd H' a u := by
  rcases h with h | ⟨o, h⟩
  · exact .inl (g.keep h n)
  · exact .inr ⟨o, g.keep h fun _ z => nomatch z⟩
theorem Gr.dcAt {H H' : Hp} {a : Addr} {ks : List DK} {vs : List V} (g : Gr H H') (h : DcAt H a ks vs) : DcAt H' a ks vs := by
  obtain ⟨kvs, h, r⟩ := h
  exact ⟨kvs, g.rd (fun _ z => nomatch z) h, r⟩
theorem Gr.dtAt {H H' : Hp} {a : Addr} {ks : List DK} {vs : List V} (g : Gr H H') (h : DtAt H a ks vs) : DtAt H' a ks vs := by
  obtain ⟨kvs, h, r⟩ := h
  exact ⟨kvs, g.rd (fun _ z => nomatch z) h, r⟩
theorem Gr.exo {H H' : Hp} {a : Addr} {oe : Obj} {p : Prop} (g : Gr H H') (s : H a = some (ExO a oe) ∨ p) : H' a = some (ExO a oe) ∨ p := s.imp (fun s => g.keep s fun _ z => nomatch z) fun z => z
mutual
theorem Rep.gr {c : Ct} {H H' : Hp} (g : Gr H H') : ∀ {d : Dt} {v : V}, Rep c H v d → Rep c H' v d
  | .non, _, .non => .non
  | .bl b, _, .bl _ => .bl b
  | .int i, _, .int _ => .int i
  | .str x, _, .str _ => .str x
  | .tup _, _, .tup s r => .tup (g.sqT s) (RepAll.gr g r)
  | .lst _, _, .lst s r => .lst (g.lst s) (RepAll.gr g r)
  | .scr _, _, .scr s => .scr (g.sqL s)
  | .dic _ _, _, .dic s r => .dic (g.dcAt s) (RepAll.gr g r)
  | .dit _ _, _, .dit s r => .dit (g.dtAt s) (RepAll.gr g r)
  | .ktp _, _, .ktp s => .ktp (g.keep s fun _ z => nomatch z)
  | .ptp _, _, .ptp s d r => .ptp (g.keep s fun _ z => nomatch z) d (RepAll.gr g r)
  | .fn _, _, .fn h => .fn h
  | .exc _, _, .exc m s z f => .exc m (Gr.exo g s) z f
theorem RepAll.gr {c : Ct} {H H' : Hp} (g : Gr H H') : ∀ {ds : List Dt} {vs : List V}, RepAll c H vs ds → RepAll c H' vs ds
  | [], _, .nil => .nil
  | _ :: _, _, .cons a b => .cons (Rep.gr g a) (RepAll.gr g b)
end
theorem RepAll.length {c : Ct} {H : Hp} : ∀ {ds : List Dt} {vs : List V}, RepAll c H vs ds → vs.length = ds.length
  | [], _, .nil => rfl
  | _ :: _, _, .cons _ b => congrArg (· + 1) b.length
theorem RepAll.get {c : Ct} {H : Hp} : ∀ {ds : List Dt} {vs : List V} {i : Nat} {v : V}, RepAll c H vs ds → vs[i]? = some v → ∃ d, ds[i]? = some d ∧ Rep c H v d
  | [], _, _, _, .nil, e => by simp at e
  | _ :: _, _, 0, _, .cons a _, e => by simp at e; subst e; exact ⟨_, rfl, a⟩
  | _ :: _, _, i + 1, v, .cons _ b, e => by
    obtain ⟨d, h1, h2⟩ := RepAll.get (i := i) (v := v) b (by simpa using e)
    exact ⟨d, by simpa using h1, h2⟩
theorem RepAll.getD {c : Ct} {H : Hp} : ∀ {ds : List Dt} {vs : List V} {i : Nat} {d : Dt}, RepAll c H vs ds → ds[i]? = some d → ∃ v, vs[i]? = some v ∧ Rep c H v d
  | [], _, _, _, .nil, e => by simp at e
  | _ :: _, _, 0, _, .cons a _, e => by simp at e; subst e; exact ⟨_, rfl, a⟩
  | _ :: _, _, i + 1, d, .cons _ b, e => by
    obtain ⟨v, h1, h2⟩ := RepAll.getD (i := i) (d := d) b (by simpa using e)
    exact ⟨v, by simpa using h1, h2⟩
theorem RepAll.append {c : Ct} {H : Hp} : ∀ {ds es : List Dt} {vs ws : List V}, RepAll c H vs ds → RepAll c H ws es → RepAll c H (vs ++ ws) (ds ++ es)
  | [], _, _, _, .nil, s => s
  | _ :: _, _, _, _, .cons a b, s => .cons a (RepAll.append b s)
theorem RepAll.take {c : Ct} {H : Hp} : ∀ {ds : List Dt} {vs : List V} (n : Nat), RepAll c H vs ds → RepAll c H (vs.take n) (ds.take n)
  | _, _, 0, _ => by rw [List.take_zero, List.take_zero]; exact .nil
  | [], _, _ + 1, .nil => .nil
  | _ :: _, _, n + 1, .cons a b => .cons a (RepAll.take n b)
theorem RepAll.drop {c : Ct} {H : Hp} : ∀ {ds : List Dt} {vs : List V} (n : Nat), RepAll c H vs ds → RepAll c H (vs.drop n) (ds.drop n)
  | _, _, 0, h => h
  | [], _, _ + 1, .nil => .nil
  | _ :: _, _, n + 1, .cons _ b => RepAll.drop n b
theorem RepAll.snoc {c : Ct} {H : Hp} {ds : List Dt} {vs : List V} {v : V} {d : Dt} (h : RepAll c H vs ds) (r : Rep c H v d) : RepAll c H (vs ++ [v]) (ds ++ [d]) := h.append (.cons r .nil)
theorem RepAll.reverse {c : Ct} {H : Hp} : ∀ {ds : List Dt} {vs : List V}, RepAll c H vs ds → RepAll c H vs.reverse ds.reverse
  | [], _, .nil => .nil
  | _ :: _, _, .cons a b => by rw [List.reverse_cons, List.reverse_cons]; exact (RepAll.reverse b).snoc a
theorem RepAll.set {c : Ct} {H : Hp} {v : V} {d : Dt} (r : Rep c H v d) : ∀ {ds : List Dt} {vs : List V} (i : Nat), RepAll c H vs ds → RepAll c H (vs.set i v) (ds.set i d)
  | [], _, _, .nil => .nil
  | _ :: _, _, 0, .cons _ b => .cons r b
  | _ :: _, _, i + 1, .cons a b => .cons a (RepAll.set r i b)
def hideL (H : Hp) (as : List Addr) : Hp := fun b => if b ∈ as then none else H b
theorem hideL_in {H : Hp} {as : List Addr} {b : Addr} (h : b ∈ as) : hideL H as b = none := if_pos h
theorem hideL_out {H : Hp} {as : List Addr} {b : Addr} (h : b ∉ as) : hideL H as b = H b := if_neg h
theorem hideL_some {H : Hp} {as : List Addr} {b : Addr} {o : HO} (h : hideL H as b = some o) : b ∉ as ∧ H b = some o := by
  by_cases e : b ∈ as
  · rw [hideL_in e] at h; cases h
  · rw [hideL_out e] at h; exact ⟨e, h⟩
theorem hideL_le (H : Hp) (as : List Addr) : Le (hideL H as) H := fun _ _ h => (hideL_some h).2
theorem hideL_mono (H : Hp) {as as' : List Addr} (h : ∀ a ∈ as', a ∈ as) : Le (hideL H as) (hideL H as') := fun b o e => by
  obtain ⟨h1, h2⟩ := hideL_some e
  rw [hideL_out fun z => h1 (h b z)]
  exact h2
theorem hideL_nil (H : Hp) : hideL H [] = H := by funext b; exact if_neg (by simp)
/-- what may be hidden: no tuple, nothing locked, no code -/
structure MutO (o : HO) : Prop where
  tup : ∀ vs, o ≠ .tup vs
  frz : ∀ ob u, o ≠ .frz ob u
  tbl : ∀ ps, o ≠ .tbl ps
  gen : ∀ c P, c ≠ P → o ≠ GenC c P
  cod : ∀ c q, o ≠ LamX.CodeO c q
theorem mut_lst {vs : List V} : MutO (.lst vs) := ⟨fun _ z => (nomatch z), fun _ _ z => (nomatch z), fun _ z => (nomatch z), fun c P _ z => (nomatch z), fun _ _ z => (nomatch z)⟩
theorem mut_dT {vs : List (List Key × V)} : MutO (.dT vs) := ⟨fun _ z => (nomatch z), fun _ _ z => (nomatch z), fun _ z => (nomatch z), fun c P _ z => (nomatch z), fun _ _ z => (nomatch z)⟩
theorem mut_dK {vs : List (Key × V)} : MutO (.dK vs) := ⟨fun _ z => (nomatch z), fun _ _ z => (nomatch z), fun _ z => (nomatch z), fun c P _ z => (nomatch z), fun _ _ z => (nomatch z)⟩
def Hid (as : List Addr) (H : Hp) : Prop := ∀ a ∈ as, ∃ o, H a = some o ∧ MutO o
theorem MutO.noTbl {o : HO} (m : MutO o) : ∀ ps, o ≠ .tbl ps := m.tbl
theorem Hid.gr {as : List Addr} {H H' : Hp} (g : Gr H H') (h : Hid as H) : Hid as H' := fun a ha => by
  obtain ⟨o, e, m⟩ := h a ha
  exact ⟨o, g.keep e m.noTbl, m⟩
theorem nl_hideL {as : List Addr} {H : Hp} {P : Addr} (h : Hid as H) (n : NL H P) : NL (hideL H as) P := by
  refine n.move (fun b q e => hideL_out fun z => ?_) fun p q ps hp e => hideL_out fun z => ?_
  · obtain ⟨o, e2, m⟩ := h b z
    rw [e] at e2; cases e2
    exact m.cod _ _ rfl
  · obtain ⟨o, e2, m⟩ := h p z
    rw [e] at e2; cases e2
    exact m.tbl _ rfl
theorem goodC_hideL {as : List Addr} {H : Hp} {cv : Value} (h : Hid as H) (g : GoodC H cv) : GoodC (hideL H as) cv := by
  obtain ⟨c, P, qs, rfl, h1, h2, h3, h4⟩ := g
  have ncp : c ≠ P := fun z => by subst z; rw [h1] at h2; exact genC_ne qs (Option.some.inj h2)
  have n1 : c ∉ as := fun z => by
    obtain ⟨o, e, m⟩ := h c z
    rw [h1] at e; cases e
    exact m.gen c P ncp rfl
  have n2 : P ∉ as := fun z => by
    obtain ⟨o, e, m⟩ := h P z
    rw [h2] at e; cases e
    exact m.tbl _ rfl
  exact ⟨c, P, qs, rfl, by rw [hideL_out n1]; exact h1, by rw [hideL_out n2]; exact h2, h3, nl_hideL h h4⟩
theorem goodAt_hideL {as : List Addr} {b : Addr} {H : Hp} {cv : Value} (h : Hid as H) (g : GoodAt b H cv) : GoodAt b (hideL H as) cv := by
  rcases g with ⟨q0, g, c, rfl, h1⟩ | g
  · refine .inl ⟨q0, g, c, rfl, ?_⟩
    rw [hideL_out fun z => ?_]
    · exact h1
    · obtain ⟨o, e, m⟩ := h c z
      rw [h1] at e; cases e
      exact m.cod _ _ rfl
  · exact .inr ⟨g.1, goodC_hideL h g.2⟩
theorem Gr.hide {as : List Addr} {H H' : Hp} (hd : Hid as H) (g : Gr H H') : Gr (hideL H as) (hideL H' as) := fun b o e => by
  obtain ⟨h1, h2⟩ := hideL_some e
  rcases g b o h2 with q | ⟨ps, ps', z, q, t, u⟩
  · exact .inl (by rw [hideL_out h1]; exact q)
  · exact .inr ⟨ps, ps', z, by rw [hideL_out h1]; exact q, t, fun pos cv w => by
      rcases u pos cv w with y | y
      · exact .inl y
      · exact .inr (goodAt_hideL (hd.gr g) y)⟩
/-- the hidden part stands, the other one has grown -/
theorem Gr.whole {as : List Addr} {H H' : Hp} (hd : Hid as H) (k : ∀ a ∈ as, H' a = H a) (g : Gr (hideL H as) (hideL H' as)) : Gr H H' := fun b o e => by
  by_cases hb : b ∈ as
  · exact .inl (by rw [k b hb]; exact e)
  · rcases g b o (by rw [hideL_out hb]; exact e) with q | ⟨ps, ps', z, q, t, u⟩
    · exact .inl (hideL_some q).2
    · exact .inr ⟨ps, ps', z, (hideL_some q).2, t, fun pos cv w => (u pos cv w).imp _root_.id (goodAt_gr (hideL_le _ _).gr)⟩
mutual
def Dt.pure : Dt → Bool
  | .lst _ => false
  | .dic _ _ => false
  | .dit _ _ => false
  | .scr _ => false
  | .exc _ => false
  | .tup xs => pureAll xs
  | .ptp xs => pureAll xs
  | _ => true
def pureAll : List Dt → Bool
  | [] => true
  | d :: ds => d.pure && pureAll ds
end
theorem tup_hide {H : Hp} {as : List Addr} {a : Addr} {vs : List V} (hd : Hid as H) (s : H a = some (.tup vs)) : hideL H as a = some (.tup vs) := by
  rw [hideL_out fun z => ?_]
  · exact s
  · obtain ⟨o, e, m⟩ := hd a z
    rw [s] at e; cases e
    exact m.tup _ rfl
theorem frz_hide {H : Hp} {as : List Addr} {a : Addr} {ob : Obj} {u : HO} (hd : Hid as H) (s : H a = some (.frz ob u)) : hideL H as a = some (.frz ob u) := by
  rw [hideL_out fun z => ?_]
  · exact s
  · obtain ⟨o, e, m⟩ := hd a z
    rw [s] at e; cases e
    exact m.frz _ _ rfl
theorem sqT_hide' {K : PySem.W.Frag} {H : Hp} {as : List Addr} {a : Addr} {vs : List V} (hd : Hid as H) (s : SqT K H a vs) : SqT K (hideL H as) a vs := by
  rcases s with (s | ⟨o, s⟩) | s
  · refine .inl (.inl ?_)
    rw [hideL_out fun z => ?_]
    · exact s
    · obtain ⟨o, e, m⟩ := hd a z
      rw [s] at e; cases e
      exact m.tup _ rfl
  · refine .inl (.inr ⟨o, ?_⟩)
    rw [hideL_out fun z => ?_]
    · exact s
    · obtain ⟨o, e, m⟩ := hd a z
      rw [s] at e; cases e
      exact m.frz _ _ rfl
  · exact .inr s
mutual
theorem Rep.purely {c : Ct} {H : Hp} {as : List Addr} (hd : Hid as H) : ∀ {d : Dt} {v : V}, d.pure = true → Rep c H v d → Rep c (hideL H as) v d
  | .non, _, _, .non => .non
  | .bl b, _, _, .bl _ => .bl b
  | .int i, _, _, .int _ => .int i
  | .str x, _, _, .str _ => .str x
  | .tup ds, _, p, .tup s r => .tup (sqT_hide' hd s) (RepAll.purely hd (by simpa [Dt.pure] using p) r)
  | .lst _, _, p, _ => by simp [Dt.pure] at p
  | .dic _ _, _, p, _ => by simp [Dt.pure] at p
  | .dit _ _, _, p, _ => by simp [Dt.pure] at p
  | .scr _, _, p, _ => by simp [Dt.pure] at p
  | .ktp _, _, _, .ktp s => .ktp (tup_hide hd s)
  | .ptp ds, _, p, .ptp s d r => .ptp (frz_hide hd s) d (RepAll.purely hd (by simpa [Dt.pure] using p) r)
  | .fn _, _, _, .fn h => .fn h
  | .exc _, _, p, _ => by simp [Dt.pure] at p
theorem RepAll.purely {c : Ct} {H : Hp} {as : List Addr} (hd : Hid as H) : ∀ {ds : List Dt} {vs : List V}, pureAll ds = true → RepAll c H vs ds → RepAll c (hideL H as) vs ds
  | [], _, _, .nil => .nil
  | d :: ds, _, p, .cons a b => by
    have q : d.pure = true ∧ pureAll ds = true := by simpa [pureAll] using p
    exact .cons (Rep.purely hd q.1 a) (RepAll.purely hd q.2 b)
end
inductive Con (c : Ct) (Hs : Hp) : HO → Dt → Prop
  | lst {vs : List V} {ds : List Dt} (r : RepAll c Hs vs ds) : Con c Hs (.lst vs) (.lst ds)
  | dK {kvs : List (Key × V)} {ds : List Dt} (r : RepAll c Hs (kvs.map (·.2)) ds) : Con c Hs (.dK kvs) (.dic (kvs.map fun p => DK.k p.1) ds)
  | dT {kvs : List (List Key × V)} {ds : List Dt} (r : RepAll c Hs (kvs.map (·.2)) ds) : Con c Hs (.dT kvs) (.dit (kvs.map fun p => DK.t p.1) ds)
theorem Con.gr {c : Ct} {H H' : Hp} {o : HO} {d : Dt} (g : Gr H H') (h : Con c H o d) : Con c H' o d := by
  cases h with
  | lst r => exact .lst (r.gr g)
  | dK r => exact .dK (r.gr g)
  | dT r => exact .dT (r.gr g)
theorem Con.mut {c : Ct} {H : Hp} {o : HO} {d : Dt} (h : Con c H o d) : MutO o := by
  cases h with
  | lst _ => exact mut_lst
  | dK _ => exact mut_dK
  | dT _ => exact mut_dT
theorem Con.rep {c : Ct} {Hs H : Hp} {a : Addr} {o : HO} {d : Dt} (h : Con c Hs o d) (g : Gr Hs H) (e : H a = some o) : Rep c H (.ref a) d := by
  cases h with
  | lst r => exact .lst e (r.gr g)
  | dK r => exact .dic ⟨_, .inl e, rfl, rfl⟩ (r.gr g)
  | dT r => exact .dit ⟨_, .inl e, rfl, rfl⟩ (r.gr g)
/-- to be read: it lies open, or its top is hidden -/
def RepC (c : Ct) (as : List Addr) (H : Hp) (v : V) (d : Dt) : Prop := Rep c (hideL H as) v d ∨ ∃ a o, v = .ref a ∧ a ∈ as ∧ H a = some o ∧ Con c (hideL H as) o d
theorem RepC.full {c : Ct} {as : List Addr} {H : Hp} {v : V} {d : Dt} (h : RepC c as H v d) : Rep c H v d := by
  rcases h with h | ⟨a, o, rfl, _, e, h⟩
  · exact h.gr (hideL_le _ _).gr
  · exact h.rep (hideL_le _ _).gr e
theorem RepC.gr {c : Ct} {as : List Addr} {H H' : Hp} {v : V} {d : Dt} (hd : Hid as H) (g : Gr H H') (h : RepC c as H v d) : RepC c as H' v d := by
  rcases h with h | ⟨a, o, rfl, ha, e, h⟩
  · exact .inl (h.gr (g.hide hd))
  · exact .inr ⟨a, o, rfl, ha, g.keep e h.mut.noTbl, h.gr (g.hide hd)⟩
theorem RepC.pure {c : Ct} {as : List Addr} {H : Hp} {v : V} {d : Dt} (hd : Hid as H) (p : d.pure = true) (h : RepC c as H v d) : Rep c (hideL H as) v d := h.full.purely hd p
/-- how a value came: new, open, or not to be kept -/
inductive Kd where
  | nw
  | sh
  | al
  deriving DecidableEq
abbrev Rv := Kd × Dt
def RvR (c : Ct) (as : List Addr) (H0 H : Hp) (v : V) : Rv → Prop
  | (.nw, d) => ∃ p o, v = .ref p ∧ H0 p = none ∧ H p = some o ∧ Con c (hideL H (p :: as)) o d
  | (.sh, d) => Rep c (hideL H as) v d
  | (.al, d) => RepC c as H v d
theorem Hid.new {as : List Addr} {H : Hp} (h : Hid as H) {p : Addr} (n : H p = none) : p ∉ as := fun z => by
  obtain ⟨o, e, _⟩ := h p z
  rw [n] at e; cases e
theorem RvR.c {c : Ct} {as : List Addr} {H0 H : Hp} {v : V} {k : Kd} {d : Dt} (hd : Hid as H0) (h : RvR c as H0 H v (k, d)) : RepC c as H v d := by
  cases k with
  | nw =>
    obtain ⟨p, o, rfl, n, e, h⟩ := h
    exact .inl (h.rep (hideL_mono H fun a ha => .tail _ ha).gr (by rw [hideL_out (hd.new n)]; exact e))
  | sh => exact .inl h
  | al => exact h
theorem RvR.gr {c : Ct} {as : List Addr} {H0 H H' : Hp} {v : V} {rv : Rv} (hd : Hid as H) (g : Gr H H') (h : RvR c as H0 H v rv) : RvR c as H0 H' v rv := by
  obtain ⟨k, d⟩ := rv
  cases k with
  | nw =>
    obtain ⟨p, o, rfl, n, e, h⟩ := h
    refine ⟨p, o, rfl, n, g.keep e h.mut.noTbl, h.gr (Gr.hide ?_ g)⟩
    intro a ha
    rcases List.mem_cons.mp ha with rfl | ha
    · exact ⟨o, e, h.mut⟩
    · exact hd a ha
  | sh => exact Rep.gr (g.hide hd) h
  | al => exact RepC.gr hd g h
theorem RvR.back {c : Ct} {as : List Addr} {H0 H1 H : Hp} {v : V} {rv : Rv} (g : Gr H0 H1) (h : RvR c as H1 H v rv) : RvR c as H0 H v rv := by
  obtain ⟨k, d⟩ := rv
  cases k with
  | nw =>
    obtain ⟨p, o, rfl, n, e, h⟩ := h
    exact ⟨p, o, rfl, g.free n, e, h⟩
  | sh => exact h
  | al => exact h
def keepK : Rv → Bool
  | (.al, d) => d.pure
  | _ => true
/-- what may be kept lies open -/
theorem RvR.keep {c : Ct} {as : List Addr} {H0 H : Hp} {v : V} {rv : Rv} (hd : Hid as H0) (g : Gr H0 H) (k : keepK rv = true) (h : RvR c as H0 H v rv) : Rep c (hideL H as) v rv.2 := by
  obtain ⟨q, d⟩ := rv
  cases q with
  | nw =>
    obtain ⟨p, o, rfl, n, e, h⟩ := h
    exact h.rep (hideL_mono H fun a ha => .tail _ ha).gr (by rw [hideL_out (hd.new n)]; exact e)
  | sh => exact h
  | al => exact RepC.pure (hd.gr g) k h
/-- what stood kept ahead of each pass: tuples of a dict and a number -/
inductive AhL (c : Ct) (Hs H : Hp) : List V → List Addr → List Dt → Prop
  | nil : AhL c Hs H [] [] []
  | cons {t q : Addr} {n : Int} {kvs : List (Key × V)} {d : Dt} {vs : List V} {qs : List Addr} {ds : List Dt} (h : Hs t = some (.tup [.ref q, .int n])) (e : H q = some (.dK kvs)) (con : Con c Hs (.dK kvs) d) (r : AhL c Hs H vs qs ds) : AhL c Hs H (.ref t :: vs) (q :: qs) (.tup [d, .int n] :: ds)
theorem AhL.move {c : Ct} {Hs H Hs' H' : Hp} (g : Gr Hs Hs') : ∀ {vs : List V} {qs : List Addr} {ds : List Dt}, (∀ x ∈ qs, H' x = H x) → AhL c Hs H vs qs ds → AhL c Hs' H' vs qs ds
  | _, _, _, _, .nil => .nil
  | _, _, _, k, .cons h e con r => .cons (g.tup h) (by rw [k _ (.head _)]; exact e) (con.gr g) (AhL.move g (fun x hx => k x (.tail _ hx)) r)
theorem AhL.snoc {c : Ct} {Hs H : Hp} {t q : Addr} {n : Int} {kvs : List (Key × V)} {d : Dt} (h : Hs t = some (.tup [.ref q, .int n])) (e : H q = some (.dK kvs)) (con : Con c Hs (.dK kvs) d) : ∀ {vs : List V} {qs : List Addr} {ds : List Dt}, AhL c Hs H vs qs ds → AhL c Hs H (vs ++ [.ref t]) (qs ++ [q]) (ds ++ [.tup [d, .int n]])
  | _, _, _, .nil => .cons h e con .nil
  | _, _, _, .cons h1 e1 c1 r => .cons h1 e1 c1 (AhL.snoc h e con r)
theorem AhL.length {c : Ct} {Hs H : Hp} : ∀ {vs : List V} {qs : List Addr} {ds : List Dt}, AhL c Hs H vs qs ds → vs.length = ds.length ∧ qs.length = ds.length
  | _, _, _, .nil => ⟨rfl, rfl⟩
  | _, _, _, .cons _ _ _ r => ⟨congrArg (· + 1) r.length.1, congrArg (· + 1) r.length.2⟩
inductive Fls (c : Ct) (Hs H : Hp) : List Addr → List Dt → Prop
  | nil : Fls c Hs H [] []
  | cons {p : Addr} {o : HO} {d : Dt} {ps : List Addr} {ds : List Dt} (e : H p = some o) (con : Con c Hs o d) (r : Fls c Hs H ps ds) : Fls c Hs H (p :: ps) (d :: ds)
theorem Fls.move {c : Ct} {Hs H Hs' H' : Hp} (g : Gr Hs Hs') : ∀ {ps : List Addr} {ds : List Dt}, (∀ x ∈ ps, H' x = H x) → Fls c Hs H ps ds → Fls c Hs' H' ps ds
  | _, _, _, .nil => .nil
  | _, _, k, .cons e con r => .cons (by rw [k _ (.head _)]; exact e) (con.gr g) (Fls.move g (fun x hx => k x (.tail _ hx)) r)
theorem Fls.length {c : Ct} {Hs H : Hp} : ∀ {ps : List Addr} {ds : List Dt}, Fls c Hs H ps ds → ps.length = ds.length
  | _, _, .nil => rfl
  | _, _, .cons _ _ r => congrArg (· + 1) r.length
theorem Fls.get {c : Ct} {Hs H : Hp} : ∀ {ps : List Addr} {ds : List Dt} {k : Nat} {d : Dt}, Fls c Hs H ps ds → ds[k]? = some d → ∃ p o, ps[k]? = some p ∧ H p = some o ∧ Con c Hs o d
  | _, _, 0, _, .cons e con r, h => by cases h; exact ⟨_, _, rfl, e, con⟩
  | _, _, k + 1, _, .cons e con r, h => by
    obtain ⟨p, o, h1, h2, h3⟩ := Fls.get r (by simpa using h)
    exact ⟨p, o, by simpa using h1, h2, h3⟩
/-- one of them has become another one, or stands elsewhere -/
theorem Fls.set {c : Ct} {Hs H Hs' H' : Hp} (g : Gr Hs Hs') {p' : Addr} {o' : HO} {d' : Dt} (e' : H' p' = some o') (con' : Con c Hs' o' d') : ∀ {ps : List Addr} {ds : List Dt} {k : Nat}, (∀ j x, ps[j]? = some x → j ≠ k → H' x = H x) → Fls c Hs H ps ds → Fls c Hs' H' (ps.set k p') (ds.set k d')
  | _, _, _, _, .nil => .nil
  | _, _, 0, m, .cons e con r => .cons e' con' (r.move g fun x hx => by
    obtain ⟨j, hj, rfl⟩ := List.getElem_of_mem hx
    exact m (j + 1) _ (by rw [List.getElem?_cons_succ, List.getElem?_eq_getElem hj]) (by simp))
  | _, _, k + 1, m, .cons e con r => .cons (by rw [m 0 _ rfl (by simp)]; exact e) (con.gr g) (Fls.set g e' con' (fun j x hx ne => m (j + 1) x (by simpa using hx) (by omega)) r)
abbrev mNames : List Str := ["plugged", "kept", "shown", "rows", "found"]
/-- the fields of a Mill -/
def mFl (w : Bool) (ps : List Addr) (u : Addr) : List (Str × V) := ("wary", .bl w) :: (List.zipWith (fun (n : Str) (p : Addr) => (n, V.ref p)) mNames ps ++ ([("ahead", V.ref u)] : List (Str × V)))
inductive MillAt (c : Ct) (Hs H : Hp) : Addr → List Addr → Dt → Prop
  | mk {a C dx u : Addr} {w : Bool} {ps : List Addr} {ds : List Dt} {vs : List V} {qs : List Addr} {ads : List Dt} (cls : c.mg "Mill" = some (.ref C)) (top : H a = some (.ins C dx (mFl w ps u))) (f : Fls c Hs H ps ds) (len : ps.length = 5) (ah : H u = some (.lst vs)) (al : AhL c Hs H vs qs ads) (nd : (a :: u :: (ps ++ qs)).Nodup) : MillAt c Hs H a (a :: u :: (ps ++ qs)) (.tup (.bl w :: .lst ads :: ds))
theorem MillAt.move {c : Ct} {Hs H Hs' H' : Hp} {a : Addr} {fp : List Addr} {d : Dt} (h : MillAt c Hs H a fp d) (k : ∀ x ∈ fp, H' x = H x) (g : Gr Hs Hs') : MillAt c Hs' H' a fp d := by
  cases h with
  | mk cls top f len ah al nd =>
    exact .mk cls (by rw [k _ (by simp)]; exact top) (f.move g fun x hx => k x (by simp [hx])) len (by rw [k _ (by simp)]; exact ah) (al.move g fun x hx => k x (by simp [hx])) nd
/-- a Mill that may be read, all of it open -/
def MrAt (c : Ct) (Hs : Hp) (a : Addr) (d : Dt) : Prop := ∃ (C dx u : Addr) (w : Bool) (ps : List Addr) (ds ads : List Dt), c.mg "Mill" = some (.ref C) ∧ Hs a = some (.ins C dx (mFl w ps u)) ∧ ps.length = 5 ∧ RepAll c Hs (ps.map V.ref) ds ∧ d = .tup (.bl w :: .lst ads :: ds)
theorem MrAt.gr {c : Ct} {H H' : Hp} {a : Addr} {d : Dt} (g : Gr H H') (h : MrAt c H a d) : MrAt c H' a d := by
  obtain ⟨C, dx, u, w, ps, ds, ads, h1, h2, h3, h4, h5⟩ := h
  exact ⟨C, dx, u, w, ps, ds, ads, h1, g.keep h2 (fun _ z => nomatch z), h3, h4.gr g, h5⟩
theorem Fls.rep {c : Ct} {Hs H : Hp} (g : Gr Hs H) : ∀ {ps : List Addr} {ds : List Dt}, Fls c Hs H ps ds → RepAll c H (ps.map V.ref) ds
  | _, _, .nil => .nil
  | _, _, .cons e con r => .cons (con.rep g e) (Fls.rep g r)
theorem MillAt.mr {c : Ct} {Hs H : Hp} {a : Addr} {fp : List Addr} {d : Dt} (h : MillAt c Hs H a fp d) (g : Gr Hs H) : MrAt c H a d := by
  cases h with
  | mk cls top f len ah al nd => exact ⟨_, _, _, _, _, _, _, cls, top, len, f.rep g, rfl⟩
theorem MillAt.hd {c : Ct} {Hs H : Hp} {a : Addr} {fp : List Addr} {d : Dt} (h : MillAt c Hs H a fp d) : a ∈ fp := by
  cases h with
  | mk cls top f len ah al nd => exact .head _
end Pm
set_option maxHeartbeats 4000000
namespace Pm
open PySem PySem.Spec PyProof.Rows L2 GxR GX
variable [LamTab]
inductive Mo (α : Type) where
  | ok (a : α)
  | ex (k : Str) (n : Option Int)
  | no
def Mo.bind {α β : Type} (m : Mo α) (f : α → Mo β) : Mo β := match m with
  | .ok a => f a
  | .ex k n => .ex k n
  | .no => .no
def Mo.of {α : Type} : Option α → Mo α
  | some a => .ok a
  | none => .no
@[simp] theorem Mo.bind_ok {α β : Type} (a : α) (f : α → Mo β) : (Mo.ok a).bind f = f a := rfl
@[simp] theorem Mo.bind_ex {α β : Type} (k : Str) (n : Option Int) (f : α → Mo β) : (Mo.ex k n : Mo α).bind f = .ex k n := rfl
@[simp] theorem Mo.bind_no {α β : Type} (f : α → Mo β) : (Mo.no : Mo α).bind f = .no := rfl
@[simp] theorem Mo.of_some {α : Type} (a : α) : Mo.of (some a) = .ok a := rfl
@[simp] theorem Mo.of_none {α : Type} : Mo.of (none : Option α) = .no := rfl
theorem Mo.bind_eq_ok {α β : Type} {m : Mo α} {f : α → Mo β} {b : β} (h : m.bind f = .ok b) : ∃ a, m = .ok a ∧ f a = .ok b := by
  cases m with
  | ok a => exact ⟨a, rfl, h⟩
  | ex k n => cases h
  | no => cases h
theorem Mo.bind_eq_ex {α β : Type} {m : Mo α} {f : α → Mo β} {k : Str} {n : Option Int} (h : m.bind f = .ex k n) : m = .ex k n ∨ ∃ a, m = .ok a ∧ f a = .ex k n := by
  cases m with
  | ok a => exact .inr ⟨a, rfl, h⟩
  | ex k n => cases h; exact .inl rfl
  | no => cases h
theorem Mo.of_eq_ok {α : Type} {o : Option α} {a : α} (h : Mo.of o = .ok a) : o = some a := by
  cases o with
  | none => cases h
  | some b => cases h; rfl
theorem Mo.of_ne_ex {α : Type} {o : Option α} {k : Str} {n : Option Int} (h : Mo.of o = .ex k n) : False := by cases o <;> cases h
/-- the error of this name, with this number -/
def ExR (c : Ct) (H : Hp) (u : Value) (d : Option Addr) (k : Str) (n : Option Int) : Prop :=
  ∃ C, c.mg k = some (.ref C) ∧ u = .ref C ∧ match n with
    | none => d = none
    | some i => ∃ dx, d = some dx ∧ H dx = some (.xd [("at", .int i)])
/-- a piece t of the machine does what m tells, from the heap H on -/
structure Tr {α β : Type} (c : Ct) (E : XK) (H : Hp) (R : α → Hp → β → Prop) (t : (α → Hp → Prop) → Prop) (m : Mo β) : Prop where
  ok : ∀ b, m = .ok b → ∀ Q, (∀ a H', Gr H H' → R a H' b → Q a H') → t Q
  ex : ∀ k n, m = .ex k n → (∀ H' u d, Gr H H' → ExR c H' u d k n → E u d H') → ∀ Q, t Q
theorem Tr.bind {α β γ δ : Type} {c : Ct} {E : XK} {H : Hp} {R : α → Hp → β → Prop} {t : (α → Hp → Prop) → Prop} {m : Mo β} {S : γ → Hp → δ → Prop} {u : α → Hp → (γ → Hp → Prop) → Prop} {f : β → Mo δ}
    (h : Tr c E H R t m) (hu : ∀ a H1 b, m = .ok b → Gr H H1 → R a H1 b → Tr c E H1 S (u a H1) (f b)) : Tr c E H S (fun Q => t fun a H1 => u a H1 Q) (m.bind f) := by
  refine ⟨fun d e Q q => ?_, fun k n e q Q => ?_⟩
  · obtain ⟨b, e1, e2⟩ := Mo.bind_eq_ok e
    exact h.ok b e1 _ fun a H1 g r => (hu a H1 b e1 g r).ok d e2 Q fun x H' g' s => q x H' (g.trans g') s
  · rcases Mo.bind_eq_ex e with e1 | ⟨b, e1, e2⟩
    · exact h.ex k n e1 q _
    · exact h.ok b e1 _ fun a H1 g r => (hu a H1 b e1 g r).ex k n e2 (fun H' u d g' x => q H' u d (g.trans g') x) Q
theorem Tr.of {α β : Type} {c : Ct} {E : XK} {H : Hp} {R : α → Hp → β → Prop} {t : (α → Hp → Prop) → Prop} {o : Option β} (h : ∀ b, o = some b → ∀ Q, (∀ a H', Gr H H' → R a H' b → Q a H') → t Q) : Tr c E H R t (Mo.of o) :=
  ⟨fun b e => h b (Mo.of_eq_ok e), fun k n e => (Mo.of_ne_ex e).elim⟩
theorem Tr.pure {α β : Type} {c : Ct} {E : XK} {H : Hp} {R : α → Hp → β → Prop} {a : α} {b : β} (h : R a H b) : Tr c E H R (fun Q => Q a H) (.ok b) :=
  ⟨fun b' e Q q => by cases e; exact q a H (.refl _) h, fun k n e => by cases e⟩
theorem Tr.imp {α β : Type} {c : Ct} {E : XK} {H : Hp} {R R' : α → Hp → β → Prop} {t : (α → Hp → Prop) → Prop} {m : Mo β} (h : Tr c E H R t m) (hi : ∀ a H' b, Gr H H' → R a H' b → R' a H' b) : Tr c E H R' t m :=
  ⟨fun b e Q q => h.ok b e Q fun a H' g r => q a H' g (hi a H' b g r), h.ex⟩
inductive Fl where
  | sh
  | ow
  | io
  | ml
  | mr
  deriving DecidableEq
abbrev Ev := List (Option (Fl × Dt))
/-- what does not change while a body runs: the heap and what is hidden at its entry; which places it may write for its caller -/
structure Fx where
  H0 : Hp
  as0 : List Addr
  io : List (Nat × Addr)
  ml : List Addr := []
  no : List Addr := []
  sf : List (Nat × Addr) := []
/-- nobody's Mill has to do with D -/
def Fx.ban (φ : Fx) (D : Addr) : Fx := { φ with no := D :: φ.no }
def SlotR (c : Ct) (φ : Fx) (as : List Addr) (H : Hp) (i : Nat) (v : V) (d : Dt) : Fl → Prop
  | .sh => Rep c (hideL H as) v d
  | .ow => ∃ a o, v = .ref a ∧ a ∈ as ∧ a ∉ φ.as0 ∧ H a = some o ∧ Con c (hideL H as) o d
  | .io => ∃ a o, v = .ref a ∧ (i, a) ∈ φ.io ∧ a ∈ φ.as0 ∧ H a = some o ∧ Con c (hideL H as) o d
  | .ml => True
  | .mr => ∃ a, v = .ref a ∧ MrAt c (hideL H as) a d
/-- the slots that hold a Mill -/
def MlR (c : Ct) (φ : Fx) (as : List Addr) (σ : L2.St) (H : Hp) (env : Ev) : Prop := ∃ fp : Nat → List Addr,
  (∀ (i : Nat) (d : Dt), env[i]? = some (some (Fl.ml, d)) → ∃ a, σ[i]? = some (some (.ref a)) ∧ MillAt c (hideL H as) H a (fp i) d ∧ ∀ x ∈ fp i, x ∈ as ∧ (x ∈ φ.as0 → x ∈ φ.ml) ∧ x ∉ φ.no) ∧
  (∀ (i j : Nat) (d e : Dt), i ≠ j → env[i]? = some (some (Fl.ml, d)) → env[j]? = some (some (Fl.ml, e)) → ∀ x ∈ fp i, x ∉ fp j) ∧
  (∀ (i j : Nat) (d e : Dt), env[i]? = some (some (Fl.ow, d)) → env[j]? = some (some (Fl.ml, e)) → ∀ x ∈ fp j, σ[i]? ≠ some (some (.ref x))) ∧
  (∀ x ∈ φ.no, H x ≠ none) ∧ ∀ p ∈ φ.sf, p.1 = 0 ∧ ∀ d, env[p.1]? = some (some (Fl.ml, d)) → σ[p.1]? = some (some (.ref p.2))
theorem MlR.nil {c : Ct} {φ : Fx} {as : List Addr} {σ : L2.St} {H : Hp} {env : Ev} (h : ∀ (i : Nat) (d : Dt), env[i]? ≠ some (some (Fl.ml, d))) (hn : ∀ x ∈ φ.no, H x ≠ none := by simp) (hs : ∀ p ∈ φ.sf, p.1 = 0 := by simp) : MlR c φ as σ H env := ⟨fun _ => [], fun i d e => absurd e (h i d), fun i j d e _ q => absurd q (h i d), fun i j d e _ q => absurd q (h j e), hn, fun p hp => ⟨hs p hp, fun d e => absurd e (h _ d)⟩⟩
theorem some_gr {H H' : Hp} (g : Gr H H') {x : Addr} (h : H x ≠ none) : H' x ≠ none := fun z => h (g.free z)
theorem some_upd {H : Hp} {a : Addr} {o : HO} {x : Addr} (h : H x ≠ none) : upd H a o x ≠ none := by
  by_cases z : x = a
  · subst z; rw [upd_same]; exact fun z => by cases z
  · rw [upd_ne z]; exact h
theorem MlR.moveBy {c : Ct} {φ : Fx} {as as' : List Addr} {σ σ' : L2.St} {H H' : Hp} {env env' : Ev} (h : MlR c φ as σ H env)
    (hm : ∀ (i : Nat) (d : Dt), env'[i]? = some (some (Fl.ml, d)) → env[i]? = some (some (Fl.ml, d)) ∧ σ'[i]? = σ[i]?)
    (ho : ∀ (i : Nat) (d : Dt), env'[i]? = some (some (Fl.ow, d)) → (∃ d', env[i]? = some (some (Fl.ow, d')) ∧ σ'[i]? = σ[i]?) ∨ ∀ x ∈ as, σ'[i]? ≠ some (some (.ref x)))
    (ha : ∀ x ∈ as, (x ∈ φ.as0 → x ∈ φ.ml) → x ∉ φ.no → (∀ (i : Nat) (d : Dt), env[i]? = some (some (Fl.ow, d)) → σ[i]? ≠ some (some (.ref x))) → x ∈ as' ∧ H' x = H x)
    (mm : ∀ (a : Addr) (fp : List Addr) (d : Dt), MillAt c (hideL H as) H a fp d → (∀ x ∈ fp, H' x = H x) → MillAt c (hideL H' as') H' a fp d) (hn : ∀ x, H x ≠ none → H' x ≠ none) : MlR c φ as' σ' H' env' := by
  obtain ⟨fp, h1, h2, h3, h4, h5⟩ := h
  refine ⟨fp, fun i d e => ?_, fun i j d e ne q1 q2 => ?_, fun i j d e q1 q2 x hx => ?_, fun x hx => hn x (h4 x hx), fun p hp => ⟨(h5 p hp).1, fun d e => by rw [(hm _ d e).2]; exact (h5 p hp).2 d (hm _ d e).1⟩⟩
  · obtain ⟨e0, s0⟩ := hm i d e
    obtain ⟨a, s, m, fo⟩ := h1 i d e0
    have key : ∀ x ∈ fp i, x ∈ as' ∧ H' x = H x := fun x hx => ha x (fo x hx).1 (fo x hx).2.1 (fo x hx).2.2 fun j d' ej => h3 j i d' d ej e0 x hx
    exact ⟨a, by rw [s0]; exact s, mm _ _ _ m (fun x hx => (key x hx).2), fun x hx => ⟨(key x hx).1, (fo x hx).2⟩⟩
  · exact h2 i j d e ne (hm i d q1).1 (hm j e q2).1
  · obtain ⟨e0, s0⟩ := hm j e q2
    rcases ho i d q1 with ⟨d', e1, s1⟩ | n
    · rw [s1]
      exact h3 i j d' e e1 e0 x hx
    · obtain ⟨a, s, m, fo⟩ := h1 j e e0
      exact n x (fo x hx).1
theorem MlR.move {c : Ct} {φ : Fx} {as as' : List Addr} {σ σ' : L2.St} {H H' : Hp} {env env' : Ev} (h : MlR c φ as σ H env)
    (hm : ∀ (i : Nat) (d : Dt), env'[i]? = some (some (Fl.ml, d)) → env[i]? = some (some (Fl.ml, d)) ∧ σ'[i]? = σ[i]?)
    (ho : ∀ (i : Nat) (d : Dt), env'[i]? = some (some (Fl.ow, d)) → (∃ d', env[i]? = some (some (Fl.ow, d')) ∧ σ'[i]? = σ[i]?) ∨ ∀ x ∈ as, σ'[i]? ≠ some (some (.ref x)))
    (ha : ∀ x ∈ as, (x ∈ φ.as0 → x ∈ φ.ml) → x ∉ φ.no → (∀ (i : Nat) (d : Dt), env[i]? = some (some (Fl.ow, d)) → σ[i]? ≠ some (some (.ref x))) → x ∈ as' ∧ H' x = H x)
    (g : Gr (hideL H as) (hideL H' as')) (hn : ∀ x, H x ≠ none → H' x ≠ none) : MlR c φ as' σ' H' env' := h.moveBy hm ho ha (fun _ _ _ m k => m.move k g) hn
structure Rel (c : Ct) (φ : Fx) (as : List Addr) (σ : L2.St) (H : Hp) (env : Ev) : Prop where
  len : σ.length = env.length
  hid : Hid as H
  sub : ∀ a ∈ φ.as0, a ∈ as
  base : Gr (hideL φ.H0 φ.as0) (hideL H as)
  tabs : Tabs c.ts (hideL H as)
  keep : ∀ a ∈ φ.as0, a ∉ φ.io.map (·.2) → a ∉ φ.ml → H a = φ.H0 a
  slot : ∀ (i : Nat) (fl : Fl) (d : Dt), env[i]? = some (some (fl, d)) → ∃ v, σ[i]? = some (some v) ∧ SlotR c φ as H i v d fl
  dj : ∀ (i j : Nat) (d e : Dt), i ≠ j → env[i]? = some (some (Fl.ow, d)) → env[j]? = some (some (Fl.ow, e)) → σ[i]? ≠ σ[j]?
  ioN : (φ.io.map (·.2)).Nodup ∧ (φ.io.map (·.1)).Nodup
  ioM : ∀ a ∈ φ.ml, a ∉ φ.io.map (·.2)
  mls : MlR c φ as σ H env
def Fx.bans (φ : Fx) (l : List Addr) : Fx := { φ with no := l ++ φ.no }
theorem Rel.unban {c : Ct} {φ : Fx} {as : List Addr} {σ : L2.St} {H : Hp} {env : Ev} {l : List Addr} (R : Rel c (φ.bans l) as σ H env) : Rel c φ as σ H env where
  len := R.len
  hid := R.hid
  sub := R.sub
  base := R.base
  tabs := R.tabs
  keep := R.keep
  slot := fun i fl d e => by
    obtain ⟨v, e1, h⟩ := R.slot i fl d e
    refine ⟨v, e1, ?_⟩
    cases fl <;> exact h
  dj := R.dj
  ioN := R.ioN
  ioM := R.ioM
  mls := by
    obtain ⟨fp, h1, h2, h3, h4, h5⟩ := R.mls
    refine ⟨fp, fun i d e => ?_, h2, h3, fun x hx => h4 x (List.mem_append_right _ hx), h5⟩
    obtain ⟨a, s, m, fo⟩ := h1 i d e
    exact ⟨a, s, m, fun x hx => ⟨(fo x hx).1, (fo x hx).2.1, fun z => (fo x hx).2.2 (List.mem_append_right _ z)⟩⟩
theorem SlotR.gr {c : Ct} {φ : Fx} {as : List Addr} {H H' : Hp} {i : Nat} {v : V} {d : Dt} {fl : Fl} (hd : Hid as H) (g : Gr H H') (h : SlotR c φ as H i v d fl) : SlotR c φ as H' i v d fl := by
  cases fl with
  | sh => exact Rep.gr (g.hide hd) h
  | ow =>
    obtain ⟨a, o, e1, e2, e3, e4, h⟩ := h
    exact ⟨a, o, e1, e2, e3, g.keep e4 h.mut.noTbl, h.gr (g.hide hd)⟩
  | io =>
    obtain ⟨a, o, e1, e2, e3, e4, h⟩ := h
    exact ⟨a, o, e1, e2, e3, g.keep e4 h.mut.noTbl, h.gr (g.hide hd)⟩
  | ml => trivial
  | mr =>
    obtain ⟨a, e, m⟩ := h
    exact ⟨a, e, m.gr (g.hide hd)⟩
theorem SlotR.c {c : Ct} {φ : Fx} {as : List Addr} {H : Hp} {i : Nat} {v : V} {d : Dt} {fl : Fl} (hs : ∀ a ∈ φ.as0, a ∈ as) (nm : fl ≠ .ml ∧ fl ≠ .mr) (h : SlotR c φ as H i v d fl) : RepC c as H v d := by
  cases fl with
  | sh => exact .inl h
  | ow =>
    obtain ⟨a, o, e1, e2, e3, e4, h⟩ := h
    exact .inr ⟨a, o, e1, e2, e4, h⟩
  | io =>
    obtain ⟨a, o, e1, e2, e3, e4, h⟩ := h
    exact .inr ⟨a, o, e1, hs a e3, e4, h⟩
  | ml => exact absurd rfl nm.1
  | mr => exact absurd rfl nm.2
section
variable {c : Ct} {φ : Fx} {as : List Addr} {σ : L2.St} {H H' : Hp} {env : Ev} {E : XK}
theorem Rel.gr (R : Rel c φ as σ H env) (g : Gr H H') : Rel c φ as σ H' env where
  len := R.len
  hid := R.hid.gr g
  sub := R.sub
  base := R.base.trans (g.hide R.hid)
  tabs := R.tabs.gr (g.hide R.hid)
  keep := fun a ha hn hm => by
    obtain ⟨o, e, m⟩ := R.hid a (R.sub a ha)
    rw [g.keep e m.noTbl, ← e]
    exact R.keep a ha hn hm
  slot := fun i fl d e => let ⟨v, e1, h⟩ := R.slot i fl d e; ⟨v, e1, h.gr R.hid g⟩
  dj := R.dj
  ioN := R.ioN
  ioM := R.ioM
  mls := R.mls.move (fun i d e => ⟨e, rfl⟩) (fun i d e => .inl ⟨d, e, rfl⟩) (fun x hx _ _ _ => ⟨hx, by obtain ⟨o, e, m⟩ := R.hid x hx; rw [g.keep e m.noTbl, e]⟩) (g.hide R.hid) (fun _ => some_gr g)
theorem Rel.tabsF (R : Rel c φ as σ H env) : Tabs c.ts H := R.tabs.gr (hideL_le _ _).gr
/-- a name of a comprehension -/
theorem Rel.setSh (R : Rel c φ as σ H env) {i : Nat} {v : V} {d : Dt} (h : Rep c (hideL H as) v d) : Rel c φ as (σ.set i (some v)) H (env.set i (some (.sh, d))) where
  len := by rw [List.length_set, List.length_set]; exact R.len
  hid := R.hid
  sub := R.sub
  base := R.base
  tabs := R.tabs
  keep := R.keep
  slot := fun j fl e q => by
    rw [List.getElem?_set] at q
    rw [List.getElem?_set]
    by_cases z : i = j
    · subst z
      rw [if_pos rfl] at q
      rw [if_pos rfl, R.len]
      by_cases l : i < env.length
      · rw [if_pos l] at q
        rw [if_pos l]
        cases q
        exact ⟨v, rfl, h⟩
      · rw [if_neg l] at q; cases q
    · rw [if_neg z] at q
      rw [if_neg z]
      exact R.slot j fl e q
  dj := fun j k d1 d2 ne q1 q2 => by
    rw [List.getElem?_set] at q1 q2
    by_cases z : i = j
    · subst z
      rw [if_pos rfl] at q1
      split at q1 <;> cases q1
    · rw [if_neg z] at q1
      by_cases z2 : i = k
      · subst z2
        rw [if_pos rfl] at q2
        split at q2 <;> cases q2
      · rw [if_neg z2] at q2
        rw [List.getElem?_set, List.getElem?_set, if_neg z, if_neg z2]
        exact R.dj j k d1 d2 ne q1 q2
  ioN := R.ioN
  ioM := R.ioM
  mls := R.mls.move (fun j d' q => by
    rw [List.getElem?_set] at q
    rw [List.getElem?_set]
    by_cases z : i = j
    · subst z
      rw [if_pos rfl] at q
      split at q <;> cases q
    · rw [if_neg z] at q
      rw [if_neg z]
      exact ⟨q, rfl⟩) (fun j d' q => by
    rw [List.getElem?_set] at q
    rw [List.getElem?_set]
    by_cases z : i = j
    · subst z
      rw [if_pos rfl] at q
      split at q <;> cases q
    · rw [if_neg z] at q
      rw [if_neg z]
      exact .inl ⟨d', q, rfl⟩) (fun x hx _ _ _ => ⟨hx, rfl⟩) (.refl _) (fun _ h => h)
theorem Rel.unset (R : Rel c φ as σ H env) {i : Nat} : Rel c φ as (σ.set i none) H (env.set i none) where
  len := by rw [List.length_set, List.length_set]; exact R.len
  hid := R.hid
  sub := R.sub
  base := R.base
  tabs := R.tabs
  keep := R.keep
  slot := fun j fl e q => by
    rw [List.getElem?_set] at q
    rw [List.getElem?_set]
    by_cases z : i = j
    · subst z
      rw [if_pos rfl] at q
      split at q <;> cases q
    · rw [if_neg z] at q
      rw [if_neg z]
      exact R.slot j fl e q
  dj := fun j k d1 d2 ne q1 q2 => by
    rw [List.getElem?_set] at q1 q2
    by_cases z : i = j
    · subst z
      rw [if_pos rfl] at q1
      split at q1 <;> cases q1
    · rw [if_neg z] at q1
      by_cases z2 : i = k
      · subst z2
        rw [if_pos rfl] at q2
        split at q2 <;> cases q2
      · rw [if_neg z2] at q2
        rw [List.getElem?_set, List.getElem?_set, if_neg z, if_neg z2]
        exact R.dj j k d1 d2 ne q1 q2
  ioN := R.ioN
  ioM := R.ioM
  mls := R.mls.move (fun j d' q => by
    rw [List.getElem?_set] at q
    rw [List.getElem?_set]
    by_cases z : i = j
    · subst z
      rw [if_pos rfl] at q
      split at q <;> cases q
    · rw [if_neg z] at q
      rw [if_neg z]
      exact ⟨q, rfl⟩) (fun j d' q => by
    rw [List.getElem?_set] at q
    rw [List.getElem?_set]
    by_cases z : i = j
    · subst z
      rw [if_pos rfl] at q
      split at q <;> cases q
    · rw [if_neg z] at q
      rw [if_neg z]
      exact .inl ⟨d', q, rfl⟩) (fun x hx _ _ _ => ⟨hx, rfl⟩) (.refl _) (fun _ h => h)
end
def RfE (c : Ct) (E : XK) (t : TE) (f : Ev → Mo Rv) : Prop := ∀ φ as σ H env, Rel c φ as σ H env → Tr c E H (fun v H' rv => RvR c as H H' v rv) (t σ H) (f env)
def DE (c : Ct) (X : Cx) (E : XK) (e : Expr) (f : Ev → Mo Rv) : Prop := ∃ t, PE X e t ∧ RfE c E t f
/-- several, each of them -/
inductive RvRs (c : Ct) (as : List Addr) (H0 H : Hp) : List V → List Rv → Prop
  | nil : RvRs c as H0 H [] []
  | cons {v : V} {rv : Rv} {vs : List V} {rvs : List Rv} (a : RvR c as H0 H v rv) (b : RvRs c as H0 H vs rvs) : RvRs c as H0 H (v :: vs) (rv :: rvs)
def RfA (c : Ct) (E : XK) (t : TA) (f : Ev → Mo (List Rv)) : Prop := ∀ φ as σ H env, Rel c φ as σ H env → Tr c E H (fun vs H' rvs => RvRs c as H H' vs rvs) (t σ H) (f env)
def DA (c : Ct) (X : Cx) (E : XK) (es : List Expr) (f : Ev → Mo (List Rv)) : Prop := ∃ t, PA X es t ∧ RfA c E t f
def RfT (c : Ct) (E : XK) (t : TT) (f : Ev → Mo Bool) : Prop := ∀ φ as σ H env, Rel c φ as σ H env → Tr c E H (fun b _ k => b = k) (t σ H) (f env)
def DT (c : Ct) (X : Cx) (E : XK) (e : Expr) (f : Ev → Mo Bool) : Prop := ∃ t, PT X e t ∧ RfT c E t f
section
variable {c : Ct} {as : List Addr} {H0 H H' : Hp} {vs : List V} {rvs : List Rv}
theorem RvRs.gr (hd : Hid as H) (g : Gr H H') : ∀ {vs : List V} {rvs : List Rv}, RvRs c as H0 H vs rvs → RvRs c as H0 H' vs rvs
  | _, _, .nil => .nil
  | _, _, .cons a b => .cons (a.gr hd g) (RvRs.gr hd g b)
theorem RvRs.back {H1 : Hp} (g : Gr H0 H1) : ∀ {vs : List V} {rvs : List Rv}, RvRs c as H1 H vs rvs → RvRs c as H0 H vs rvs
  | _, _, .nil => .nil
  | _, _, .cons a b => .cons (a.back g) (RvRs.back g b)
theorem RvRs.keep (hd : Hid as H0) (g : Gr H0 H) : ∀ {vs : List V} {rvs : List Rv}, rvs.all keepK = true → RvRs c as H0 H vs rvs → RepAll c (hideL H as) vs (rvs.map (·.2))
  | _, _, _, .nil => .nil
  | _, _, k, .cons a b => by
    have q := k
    rw [List.all_cons, Bool.and_eq_true] at q
    exact .cons (a.keep hd g q.1) (RvRs.keep hd g q.2 b)
inductive RepCs (c : Ct) (as : List Addr) (H : Hp) : List V → List Dt → Prop
  | nil : RepCs c as H [] []
  | cons {v : V} {d : Dt} {vs : List V} {ds : List Dt} (a : RepC c as H v d) (b : RepCs c as H vs ds) : RepCs c as H (v :: vs) (d :: ds)
theorem RvRs.rc (hd : Hid as H0) : ∀ {vs : List V} {rvs : List Rv}, RvRs c as H0 H vs rvs → RepCs c as H vs (rvs.map (·.2))
  | _, _, .nil => .nil
  | _, _, .cons (rv := (_, _)) a b => .cons (a.c hd) (RvRs.rc hd b)
theorem RvRs.length : ∀ {vs : List V} {rvs : List Rv}, RvRs c as H0 H vs rvs → vs.length = rvs.length
  | _, _, .nil => rfl
  | _, _, .cons _ b => congrArg (· + 1) b.length
end
end Pm
set_option maxHeartbeats 4000000
namespace Pm
open PySem PySem.Spec PyProof.Rows L2 GxR GX
variable [LamTab]
theorem small6 {n : Nat} (h : n ≤ 1000000) : n ≤ sizeLine := by rw [sizeLine_eq]; omega
theorem small6' {n : Nat} (h : n < 1000000) : n < sizeLine := by rw [sizeLine_eq]; omega
section
variable {c : Ct} {as : List Addr} {H H0 : Hp} {v : V}
theorem RvR.rc {rv : Rv} (hd : Hid as H0) (h : RvR c as H0 H v rv) : RepC c as H v rv.2 := by
  obtain ⟨k, d⟩ := rv
  exact RvR.c hd h
theorem rep_non (h : Rep c H v .non) : v = .non := by cases h; rfl
theorem rep_bl {b : Bool} (h : Rep c H v (.bl b)) : v = .bl b := by cases h; rfl
theorem rep_int {i : Int} (h : Rep c H v (.int i)) : v = .int i := by cases h; rfl
theorem rep_str {x : Str} (h : Rep c H v (.str x)) : v = .str x := by cases h; rfl
theorem repC_int {i : Int} (h : RepC c as H v (.int i)) : v = .int i := rep_int h.full
theorem repC_str {x : Str} (h : RepC c as H v (.str x)) : v = .str x := rep_str h.full
theorem repC_bl {b : Bool} (h : RepC c as H v (.bl b)) : v = .bl b := rep_bl h.full
theorem repC_non (h : RepC c as H v .non) : v = .non := rep_non h.full
theorem repC_tup {ds : List Dt} (h : RepC c as H v (.tup ds)) : ∃ a vs, v = .ref a ∧ SqT c.K H a vs ∧ RepAll c (hideL H as) vs ds := by
  rcases h with h | ⟨a, o, rfl, _, _, h⟩
  · cases h with
    | tup s r => exact ⟨_, _, rfl, (hideL_le H as).gr.sqT s, r⟩
  · cases h
theorem repC_lst {ds : List Dt} (h : RepC c as H v (.lst ds)) : ∃ a vs, v = .ref a ∧ H a = some (.lst vs) ∧ RepAll c (hideL H as) vs ds := by
  rcases h with h | ⟨a, o, rfl, _, e, h⟩
  · cases h with
    | lst s r => exact ⟨_, _, rfl, hideL_le H as _ _ s, r⟩
  · cases h with
    | lst r => exact ⟨a, _, rfl, e, r⟩
theorem repC_scr {ns : List Int} (h : RepC c as H v (.scr ns)) : ∃ a, v = .ref a ∧ SqL c.K H a (ns.map V.int) := by
  rcases h with h | ⟨a, o, rfl, _, e, h⟩
  · cases h with
    | scr s => exact ⟨_, rfl, (hideL_le H as).gr.sqL s⟩
  · cases h
theorem repC_dic {ks : List DK} {ds : List Dt} (h : RepC c as H v (.dic ks ds)) : ∃ a vs, v = .ref a ∧ DcAt H a ks vs ∧ RepAll c (hideL H as) vs ds := by
  rcases h with h | ⟨a, o, rfl, _, e, h⟩
  · cases h with
    | dic s r => exact ⟨_, _, rfl, (hideL_le H as).gr.dcAt s, r⟩
  · cases h with
    | dK r => exact ⟨a, _, rfl, ⟨_, .inl e, rfl, rfl⟩, r⟩
theorem le_new {p : Addr} {o : HO} (n : H p = none) : Le (hideL H as) (hideL (upd H p o) (p :: as)) := fun b u e => by
  obtain ⟨h1, h2⟩ := hideL_some e
  have ne : b ≠ p := ne_of_none h2 n
  rw [hideL_out (by simp [ne, h1]), upd_ne ne]
  exact h2
theorem le_new' {p : Addr} {o : HO} (n : H p = none) : Le (hideL H as) (hideL (upd H p o) as) := fun b u e => by
  obtain ⟨h1, h2⟩ := hideL_some e
  rw [hideL_out h1, upd_ne (ne_of_none h2 n)]
  exact h2
theorem rv_lst {p : Addr} {vs : List V} {ds : List Dt} (n : H p = none) (r : RepAll c (hideL H as) vs ds) : RvR c as H (upd H p (.lst vs)) (.ref p) (.nw, .lst ds) :=
  ⟨p, _, rfl, n, upd_same, .lst (r.gr (le_new n).gr)⟩
theorem rv_tup {p : Addr} {vs : List V} {ds : List Dt} (hd : Hid as H) (n : H p = none) (r : RepAll c (hideL H as) vs ds) : RvR c as H (upd H p (.tup vs)) (.ref p) (.sh, .tup ds) := by
  refine Rep.tup (.inl (.inl ?_)) (r.gr (le_new' n).gr)
  rw [hideL_out (hd.new n)]
  exact upd_same
end
section
variable {c : Ct} {X : Cx} {E : XK} {pos : Pos} {a b : Expr} {f g h : Ev → Mo Rv} {ta tb : TE}
def eVar (i : Nat) : Ev → Mo Rv := fun env => match env[i]? with
  | some (some (.sh, d)) => .ok (.sh, d)
  | some (some (.ow, d)) => .ok (.al, d)
  | some (some (.io, d)) => .ok (.al, d)
  | _ => .no
theorem eVar_of {i : Nat} {env : Ev} {rv : Rv} (h : eVar i env = .ok rv) : ∃ fl, env[i]? = some (some (fl, rv.2)) ∧ (fl ≠ .ml ∧ fl ≠ .mr) ∧ ((fl = .sh ∧ rv.1 = .sh) ∨ rv.1 = .al) := by
  unfold eVar at h
  split at h
  · rename_i d e; cases h; exact ⟨.sh, e, by simp, .inl ⟨rfl, rfl⟩⟩
  · rename_i d e; cases h; exact ⟨.ow, e, by simp, .inr rfl⟩
  · rename_i d e; cases h; exact ⟨.io, e, by simp, .inr rfl⟩
  · cases h
theorem rf_var {i : Nat} : RfE c E (tVar i) (eVar i) := fun φ as σ H env R => by
  refine ⟨fun rv e Q q => ?_, fun k n e => ?_⟩
  · obtain ⟨k, d⟩ := rv
    obtain ⟨fl, e1, nm, e2⟩ := eVar_of e
    obtain ⟨v, s1, s2⟩ := R.slot i fl d e1
    refine ⟨v, s1, q v H (.refl _) ?_⟩
    rcases e2 with ⟨rfl, e2⟩ | e2
    · have z : k = .sh := e2
      subst z
      exact s2
    · have z : k = .al := e2
      subst z
      exact s2.c R.sub nm
  · unfold eVar at e
    split at e <;> cases e
theorem de_var {i : Nat} {x : Str} (hN : X.N[i]? = some x) (hv : Vis X.env.scope x) (hd : (x == ("__debug__" : Str)) = false := by decide) (hcd : (x == ("__classdict__" : Str)) = false := by decide) : DE c X E (.Name x pos) (eVar i) :=
  ⟨_, pe_var hN hv hd hcd, rf_var⟩
def eC (d : Dt) : Ev → Mo Rv := fun _ => .ok (.sh, d)
theorem rf_c {v : V} {d : Dt} (h : ∀ H, Rep c H v d) : RfE c E (tC v) (eC d) := fun φ as σ H env R => .pure (h _)
theorem de_int {i : Int} {j : Nat} : DE c X E (.Constant (.int i) j pos) (eC (.int i)) := ⟨_, pe_int, rf_c fun _ => .int i⟩
theorem de_str {x : Str} {j : Nat} : DE c X E (.Constant (.str x) j pos) (eC (.str x)) := ⟨_, pe_str, rf_c fun _ => .str x⟩
theorem de_bl {x : Bool} {j : Nat} : DE c X E (.Constant (.bool x) j pos) (eC (.bl x)) := ⟨_, pe_bl, rf_c fun _ => .bl x⟩
theorem de_non {j : Nat} : DE c X E (.Constant .none j pos) (eC .non) := ⟨_, pe_non, rf_c fun _ => .non⟩
/-- a name of the module that stands for data -/
def Glob (c : Ct) (x : Str) (d : Dt) : Prop := ∃ u v, c.mg x = some u ∧ RelV v u ∧ ∀ H, Rep c H v d
theorem de_glob {x : Str} {d : Dt} (G : Glob c x d) (hm : X.mg = c.mg := by rfl) (hg : Gl X x := by rfl) (hd : (x == ("__debug__" : Str)) = false := by decide) : DE c X E (.Name x pos) (eC d) := by
  obtain ⟨u, v, h1, h2, h3⟩ := G
  exact ⟨_, pe_glob hg (by rw [hm]; exact h1) h2 hd, rf_c h3⟩
def OpD (c : Ct) (r : R2) (o : Dt → Dt → Option Rv) : Prop := ∀ as H x y d e rv, Hid as H → RepC c as H x d → RepC c as H y e → o d e = some rv → ∀ Q : VK, (∀ v H', Gr H H' → RvR c as H H' v rv → Q v H') → r x y H Q
def eBin (o : Dt → Dt → Option Rv) (f g : Ev → Mo Rv) : Ev → Mo Rv := fun env => (f env).bind fun x => (g env).bind fun y => Mo.of (o x.2 y.2)
theorem rf_op {r : R2} {o : Dt → Dt → Option Rv} (ho : OpD c r o) (ra : RfE c E ta f) (rb : RfE c E tb g) : RfE c E (tOp r ta tb) (eBin o f g) := fun φ as σ H env R =>
  (ra φ as σ H env R).bind fun x H1 rv1 _ g1 r1 => (rb φ as σ H1 env (R.gr g1)).bind fun y H2 rv2 _ g2 r2 => .of fun rv e Q q =>
    have h1 := R.hid.gr g1
    ho as H2 x y rv1.2 rv2.2 rv (h1.gr g2) ((r1.rc R.hid).gr h1 g2) (r2.rc h1) e Q fun v H' g3 r3 => q v H' g3 (r3.back (g1.trans g2))
theorem de_op {op : Operator} {r : R2} {o : Dt → Dt → Option Rv} (hr : OpR X (binaryOp op) r) (ho : OpD c r o) (ha : DE c X E a f) (hb : DE c X E b g) : DE c X E (.BinOp a op b pos) (eBin o f g) :=
  let ⟨_, pa, ra⟩ := ha; let ⟨_, pb, rb⟩ := hb; ⟨_, pe_op hr pa pb, rf_op ho ra rb⟩
def addD : Dt → Dt → Option Rv
  | .int i, .int j => some (.sh, .int (i + j))
  | .str x, .str y => if x.length + y.length ≤ 1000000 then some (.sh, .str (x ++ y)) else none
  | .tup xs, .tup ys => if xs.length + ys.length ≤ 1000000 then some (.sh, .tup (xs ++ ys)) else none
  | .lst xs, .lst ys => if xs.length + ys.length ≤ 1000000 then some (.nw, .lst (xs ++ ys)) else none
  | _, _ => none
abbrev rAddA (K : PySem.W.Frag) : R2 := fun x y H Q => (rI0 fun i j => .int (i + j)) x y H Q ∨ (∃ i j, x = .str i ∧ y = .str j ∧ i.length + j.length ≤ sizeLine ∧ Q (.str (i ++ j)) H) ∨ rCatA K x y H Q ∨ rCat x y H Q
theorem or_add : OpR X (binaryOp .Add) (rAddA X.K) := op_add.or (op_add_str.or (op_catA.or op_cat))
theorem od_add : OpD c (rAddA c.K) addD := fun as H x y d e rv hd hx hy o Q q => by
  unfold addD at o
  split at o
  · cases o
    rw [repC_int hx, repC_int hy]
    exact .inl ⟨_, _, rfl, rfl, q _ H (.refl _) (.int _)⟩
  · rw [repC_str hx, repC_str hy]
    split at o
    · rename_i hl; cases o
      exact .inr (.inl ⟨_, _, rfl, rfl, small6 hl, q _ H (.refl _) (.str _)⟩)
    · cases o
  · split at o
    · rename_i xs ys hl; cases o
      obtain ⟨a, vs, rfl, sa, ra⟩ := repC_tup hx
      obtain ⟨b, ws, rfl, sb, rb⟩ := repC_tup hy
      have l1 := ra.length
      have l2 := rb.length
      refine .inr (.inr (.inl ⟨a, b, vs, ws, rfl, rfl, sa, sb, by rw [l1, l2]; exact small6 hl, fun z => ?_, fun _ z => ?_, fun _ _ p np => q _ _ (.new np) (rv_tup hd np (ra.append rb))⟩))
      · subst z
        cases xs with
        | nil =>
          rw [List.nil_append] at q
          rcases hy with hy | ⟨_, _, _, _, _, hy⟩
          · exact q _ H (.refl _) hy
          · cases hy
        | cons _ _ => cases l1
      · subst z
        cases ys with
        | nil =>
          rw [List.append_nil] at q
          rcases hx with hx | ⟨_, _, _, _, _, hx⟩
          · exact q _ H (.refl _) hx
          · cases hx
        | cons _ _ => cases l2
    · cases o
  · split at o
    · rename_i hl; cases o
      obtain ⟨a, vs, rfl, sa, ra⟩ := repC_lst hx
      obtain ⟨b, ws, rfl, sb, rb⟩ := repC_lst hy
      exact .inr (.inr (.inr ⟨a, b, vs, ws, rfl, rfl, sa, sb, by rw [ra.length, rb.length]; exact small6 hl, fun p np => q _ _ (.new np) (rv_lst np (ra.append rb))⟩))
    · cases o
  · cases o
theorem de_add (ha : DE c X E a f) (hb : DE c X E b g) (hK : X.K = c.K := by rfl) : DE c X E (.BinOp a .Add b pos) (eBin addD f g) := de_op or_add (by rw [hK]; exact od_add) ha hb
/-- on ints -/
def intD (C : Int → Int → Bool) (o : Int → Int → Int) : Dt → Dt → Option Rv
  | .int i, .int j => if C i j = true then some (.sh, .int (o i j)) else none
  | _, _ => none
theorem od_int {C : Int → Int → Prop} {C' : Int → Int → Bool} {o : Int → Int → Int} (hC : ∀ i j, C' i j = true → C i j) : OpD c (rI C fun i j => .int (o i j)) (intD C' o) := fun as H x y d e rv hd hx hy oo Q q => by
  unfold intD at oo
  split at oo
  · rw [repC_int hx, repC_int hy]
    split at oo
    · rename_i hl; cases oo
      exact ⟨_, _, rfl, rfl, hC _ _ hl, q _ H (.refl _) (.int _)⟩
    · cases oo
  · cases oo
theorem de_sub (ha : DE c X E a f) (hb : DE c X E b g) : DE c X E (.BinOp a .Sub b pos) (eBin (intD (fun _ _ => true) (· - ·)) f g) := by
  refine de_op (r := rI (fun _ _ => True) fun i j => .int (i - j)) ?_ (od_int fun _ _ _ => True.intro) ha hb
  exact opI fun _ _ _ _ _ _ _ _ q => sub_int q
def okMul (i j : Int) : Bool := decide ((-(2 ^ 64) < i ∧ i < 2 ^ 64) ∨ (-(2 ^ 64) < j ∧ j < 2 ^ 64))
theorem de_mul (ha : DE c X E a f) (hb : DE c X E b g) : DE c X E (.BinOp a .Mult b pos) (eBin (intD okMul (· * ·)) f g) := de_op op_mul (od_int fun _ _ h => by have h2 := of_decide_eq_true h; exact h2) ha hb
theorem de_mod (ha : DE c X E a f) (hb : DE c X E b g) : DE c X E (.BinOp a .Mod b pos) (eBin (intD (fun _ j => decide (0 < j)) (· % ·)) f g) := de_op op_mod (od_int fun _ _ h => of_decide_eq_true h) ha hb
theorem de_fdiv (ha : DE c X E a f) (hb : DE c X E b g) : DE c X E (.BinOp a .FloorDiv b pos) (eBin (intD (fun _ j => decide (0 < j ∧ j.natAbs.log2 < 9000)) (· / ·)) f g) := de_op op_fdivW (od_int fun _ _ h => by have h2 := of_decide_eq_true h; exact h2) ha hb
theorem de_pow (ha : DE c X E a f) (hb : DE c X E b g) : DE c X E (.BinOp a .Pow b pos) (eBin (intD (fun i j => decide (0 ≤ j ∧ j ≤ 1000000 ∧ i.natAbs < 2 ^ 64)) (fun i j => i ^ j.toNat)) f g) := de_op op_pow (od_int fun _ _ h => by have h2 := of_decide_eq_true h; exact h2) ha hb
def aNil : Ev → Mo (List Rv) := fun _ => .ok []
def aCons (f : Ev → Mo Rv) (g : Ev → Mo (List Rv)) : Ev → Mo (List Rv) := fun env => (f env).bind fun x => (g env).bind fun xs => .ok (x :: xs)
theorem rfa_nil : RfA c E tNil aNil := fun φ as σ H env R => .pure .nil
theorem rfa_cons {tr : TA} {fs : Ev → Mo (List Rv)} (ra : RfE c E ta f) (rr : RfA c E tr fs) : RfA c E (tCons ta tr) (aCons f fs) := fun φ as σ H env R =>
  (ra φ as σ H env R).bind fun x H1 rv1 _ g1 r1 => (rr φ as σ H1 env (R.gr g1)).bind fun xs H2 rvs _ g2 rs =>
    .pure (R := fun vs H' rvs => RvRs c as H H' vs rvs) (.cons (r1.gr (R.hid.gr g1) g2) (rs.back g1))
theorem da_nil : DA c X E [] aNil := ⟨_, pa_nil, rfa_nil⟩
theorem da_cons {es : List Expr} {fs : Ev → Mo (List Rv)} (ha : DE c X E a f) (hr : DA c X E es fs) (hs : starEach (a :: es) X.env = (false, eval a X.env) :: starEach es X.env := by rfl) : DA c X E (a :: es) (aCons f fs) :=
  let ⟨_, pa, ra⟩ := ha; let ⟨_, pr, rr⟩ := hr; ⟨_, pa_cons pa pr hs, rfa_cons ra rr⟩
/-- (a, b, ..) -/
def tupD (xs : List Rv) : Option Rv := if xs.all keepK = true ∧ xs.length ≤ 1000000 then some (.sh, .tup (xs.map (·.2))) else none
def eTup (fs : Ev → Mo (List Rv)) : Ev → Mo Rv := fun env => (fs env).bind fun xs => Mo.of (tupD xs)
theorem de_tup {es : List Expr} {fs : Ev → Mo (List Rv)} {x1 : Nat} (h : DA c X E es fs) : DE c X E (.Tuple es x1 pos) (eTup fs) := by
  obtain ⟨t, pa, ra⟩ := h
  refine ⟨_, pe_tup pa, fun φ as σ H env R => (ra φ as σ H env R).bind fun vs H1 rvs _ g1 rs => .of fun rv e Q q => ?_⟩
  unfold tupD at e
  split at e
  · rename_i hl; cases e
    have r := rs.keep R.hid g1 hl.1
    refine ⟨by rw [rs.length]; exact small6 hl.2, fun p np => q _ _ (.new np) (RvR.back g1 (rv_tup (R.hid.gr g1) np r))⟩
  · cases e
/-- [a, b, ..] -/
def lstD (xs : List Rv) : Option Rv := if xs.all keepK = true ∧ xs.length ≤ 1000000 then some (.nw, .lst (xs.map (·.2))) else none
def eLst (fs : Ev → Mo (List Rv)) : Ev → Mo Rv := fun env => (fs env).bind fun xs => Mo.of (lstD xs)
theorem de_lst {es : List Expr} {fs : Ev → Mo (List Rv)} (h : DA c X E es fs) : DE c X E (.List es pos) (eLst fs) := by
  obtain ⟨t, pa, ra⟩ := h
  refine ⟨_, pe_lst pa, fun φ as σ H env R => (ra φ as σ H env R).bind fun vs H1 rvs _ g1 rs => .of fun rv e Q q => ?_⟩
  unfold lstD at e
  split at e
  · rename_i hl; cases e
    have r := rs.keep R.hid g1 hl.1
    refine ⟨by rw [rs.length]; exact small6 hl.2, fun p np => q _ _ (.new np) (RvR.back g1 (rv_lst np r))⟩
  · cases e
end
end Pm
set_option maxHeartbeats 4000000
namespace Pm
open PySem PySem.Spec PyProof.Rows L2 GxR GX
variable [LamTab]
def keyPy : Key → PyData
  | .inl i => .int i
  | .inr x => .str x
mutual
def Dt.py : Dt → Option PyData
  | .non => some .none
  | .bl b => some (.bool b)
  | .int i => some (.int i)
  | .str x => some (.str x)
  | .tup xs => (pyAll xs).map PyData.tuple
  | .lst xs => (pyAll xs).map PyData.list
  | .scr ns => some (.list (ns.map PyData.int))
  | .dic _ _ => none
  | .dit _ _ => none
  | .ktp ks => some (.tuple (ks.map keyPy))
  | .ptp xs => (pyAll xs).map PyData.tuple
  | .fn _ => none
  | .exc _ => none
def pyAll : List Dt → Option (List PyData)
  | [] => some []
  | d :: ds => match d.py, pyAll ds with
    | some p, some ps => some (p :: ps)
    | _, _ => none
end
section
variable {c : Ct} {H : Hp}
theorem dpKeys {K : PySem.W.Frag} {H : Hp} : ∀ ks : List Key, DpAll K H (ks.map kV) (ks.map keyPy)
  | [] => .nil
  | .inl i :: ks => .cons (.int i) (dpKeys ks)
  | .inr x :: ks => .cons (.str x) (dpKeys ks)
theorem dpAll_ints' {K : PySem.W.Frag} {H : Hp} : ∀ ns : List Int, DpAll K H (ns.map V.int) (ns.map PyData.int)
  | [] => .nil
  | n :: r => .cons (.int n) (dpAll_ints' r)
mutual
theorem Rep.dp : ∀ {d : Dt} {v : V} {p : PyData}, Rep c H v d → d.py = some p → Dp c.K H v p
  | .non, _, _, .non, e => by simp only [Dt.py] at e; cases e; exact .non
  | .bl b, _, _, .bl _, e => by simp only [Dt.py] at e; cases e; exact .bl b
  | .int i, _, _, .int _, e => by simp only [Dt.py] at e; cases e; exact .int i
  | .str x, _, _, .str _, e => by simp only [Dt.py] at e; cases e; exact .str x
  | .tup xs, _, _, .tup s r, e => by
    simp only [Dt.py] at e
    cases q : pyAll xs with
    | none => rw [q] at e; cases e
    | some ps => rw [q] at e; cases e; exact .tup s (RepAll.dp r q)
  | .lst xs, _, _, .lst s r, e => by
    simp only [Dt.py] at e
    cases q : pyAll xs with
    | none => rw [q] at e; cases e
    | some ps => rw [q] at e; cases e; exact .lst (.of s) (RepAll.dp r q)
  | .scr ns, _, _, .scr s, e => by simp only [Dt.py] at e; cases e; exact .lst s (dpAll_ints' ns)
  | .dic _ _, _, _, _, e => by simp only [Dt.py] at e; cases e
  | .dit _ _, _, _, _, e => by simp only [Dt.py] at e; cases e
  | .ktp ks, _, _, .ktp s, e => by simp only [Dt.py] at e; cases e; exact .tup (.inl (.inl s)) (dpKeys ks)
  | .ptp xs, _, _, .ptp s _ r, e => by
    simp only [Dt.py] at e
    cases q : pyAll xs with
    | none => rw [q] at e; cases e
    | some ps => rw [q] at e; cases e; exact .tup (.inl (.inr ⟨_, s⟩)) (RepAll.dp r q)
  | .fn _, _, _, _, e => by simp only [Dt.py] at e; cases e
  | .exc _, _, _, _, e => by simp only [Dt.py] at e; cases e
theorem RepAll.dp : ∀ {ds : List Dt} {vs : List V} {ps : List PyData}, RepAll c H vs ds → pyAll ds = some ps → DpAll c.K H vs ps
  | [], _, _, .nil, e => by simp only [pyAll] at e; cases e; exact .nil
  | d :: ds, _, _, .cons a b, e => by
    simp only [pyAll] at e
    cases q1 : d.py with
    | none => rw [q1] at e; cases e
    | some p =>
      cases q2 : pyAll ds with
      | none => rw [q1, q2] at e; cases e
      | some ps => rw [q1, q2] at e; cases e; exact .cons (Rep.dp a q1) (RepAll.dp b q2)
end
end
def eqSc : Dt → Dt → Option Bool
  | .non, .non => some true
  | .non, .int _ => some false
  | .non, .bl _ => some false
  | .non, .str _ => some false
  | .int _, .non => some false
  | .bl _, .non => some false
  | .str _, .non => some false
  | .int i, .int j => some (i == j)
  | .bl a, .bl b => some (a == b)
  | .str x, .str y => some (x == y)
  | .int _, .str _ => some false
  | .str _, .int _ => some false
  | .bl _, .str _ => some false
  | .str _, .bl _ => some false
  | _, _ => none
def eqDp (d e : Dt) : Option Bool := match d.py, e.py with
  | some p, some q => if SeqAt.shaped p = true ∧ SeqAt.shaped q = true then some (PyData.eqv p q) else none
  | _, _ => none
def eqD (d e : Dt) : Option Bool := match eqSc d e with
  | some b => some b
  | none => eqDp d e
def cmpD (o : Dt → Dt → Option Bool) : Dt → Dt → Option Rv := fun d e => (o d e).map fun b => (.sh, .bl b)
theorem cmpD_of {o : Dt → Dt → Option Bool} {d e : Dt} {rv : Rv} (h : cmpD o d e = some rv) : ∃ b, o d e = some b ∧ rv = (.sh, .bl b) := by
  unfold cmpD at h
  cases q : o d e with
  | none => rw [q] at h; cases h
  | some b => rw [q] at h; cases h; exact ⟨b, rfl, rfl⟩
section
variable {c : Ct} {X : Cx} {E : XK} {pos : Pos} {a b e : Expr} {f g h : Ev → Mo Rv} {ta tb : TE} {as : List Addr} {H : Hp} {x y : V} {d d' : Dt}
theorem eqSc_ok {k : Bool} (hx : Rep c H x d) (hy : Rep c H y d') (q : eqSc d d' = some k) : scal x y = true ∧ decide (x = y) = k := by
  unfold eqSc at q
  split at q <;> first
    | (cases q; cases hx; cases hy; refine ⟨rfl, ?_⟩; first | exact dec_int | exact dec_bl | exact dec_str | (apply decide_eq_false; intro z; cases z) | (apply decide_eq_true; rfl))
    | cases q
abbrev rEqA (K : PySem.W.Frag) : R2 := fun x y H Q => rEq x y H Q ∨ rEqD K x y H Q
abbrev rNeA (K : PySem.W.Frag) : R2 := fun x y H Q => rNe x y H Q ∨ rNeD K x y H Q
theorem od_eq : OpD c (rEqA c.K) (cmpD eqD) := fun as H x y d e rv hd hx hy o Q q => by
  obtain ⟨k, ho, rfl⟩ := cmpD_of o
  replace o := ho
  unfold eqD at o
  split at o
  · rename_i b e1; cases o
    obtain ⟨h1, h2⟩ := eqSc_ok hx.full hy.full e1
    exact .inl ⟨h1, by rw [h2]; exact q _ H (.refl _) (.bl _)⟩
  · unfold eqDp at o
    split at o
    · rename_i p r e1 e2
      split at o
      · rename_i hs; cases o
        exact .inr ⟨p, r, hx.full.dp e1, hy.full.dp e2, hs.1, hs.2, q _ H (.refl _) (.bl _)⟩
      · cases o
    · cases o
def neD (d e : Dt) : Option Bool := (eqD d e).map (!·)
theorem od_ne : OpD c (rNeA c.K) (cmpD neD) := fun as H x y d e rv hd hx hy o Q q => by
  obtain ⟨k, ho, rfl⟩ := cmpD_of o
  replace o := ho
  unfold neD at o
  cases o1 : eqD d e with
  | none => rw [o1] at o; cases o
  | some k' =>
    rw [o1] at o
    cases o
    unfold eqD at o1
    split at o1
    · rename_i b e1; cases o1
      obtain ⟨h1, h2⟩ := eqSc_ok hx.full hy.full e1
      exact .inl ⟨h1, by rw [h2]; exact q _ H (.refl _) (.bl _)⟩
    · unfold eqDp at o1
      split at o1
      · rename_i p r e1 e2
        split at o1
        · rename_i hs; cases o1
          exact .inr ⟨p, r, hx.full.dp e1, hy.full.dp e2, hs.1, hs.2, q _ H (.refl _) (.bl _)⟩
        · cases o1
      · cases o1
theorem or_eq (hu : X.A.units + 64 < cLine) : OpR X (compareOp .Eq) (rEqA X.K) := op_eq.or (op_eqD hu)
theorem or_ne (hu : X.A.units + 64 < cLine) : OpR X (compareOp .NotEq) (rNeA X.K) := op_ne.or (op_neD hu)
/-- a comparison: its rule, and what it is on data -/
structure CmpR (c : Ct) (X : Cx) (op : CmpOp) (o : Dt → Dt → Option Bool) : Prop where
  at' : ∃ r, OpR X (compareOp op) r ∧ OpD c r (cmpD o)
theorem cm_eq (hu : X.A.units + 64 < cLine) (hK : X.K = c.K := by rfl) : CmpR c X .Eq eqD := ⟨_, or_eq hu, by rw [hK]; exact od_eq⟩
theorem cm_ne (hu : X.A.units + 64 < cLine) (hK : X.K = c.K := by rfl) : CmpR c X .NotEq neD := ⟨_, or_ne hu, by rw [hK]; exact od_ne⟩
def ordD (o : Int → Int → Bool) : Dt → Dt → Option Bool
  | .int i, .int j => some (o i j)
  | _, _ => none
theorem od_ord {o : Int → Int → Bool} : OpD c (rI0 fun i j => .bl (o i j)) (cmpD (ordD o)) := fun as H x y d e rv hd hx hy oo Q q => by
  obtain ⟨k, ho, rfl⟩ := cmpD_of oo
  replace oo := ho
  unfold ordD at oo
  split at oo
  · cases oo
    rw [repC_int hx, repC_int hy]
    exact ⟨_, _, rfl, rfl, q _ H (.refl _) (.bl _)⟩
  · cases oo
abbrev ltD := ordD fun i j => decide (i < j)
abbrev leD := ordD fun i j => decide (i ≤ j)
abbrev gtD := ordD fun i j => decide (j < i)
theorem cm_lt : CmpR c X .Lt ltD := ⟨_, op_lt, od_ord⟩
theorem cm_le : CmpR c X .LtE leD := ⟨_, op_le, od_ord⟩
theorem cm_gt : CmpR c X .Gt gtD := ⟨_, op_gt, od_ord⟩
/-- is None, is True, is False -/
def isDt : Dt → Dt → Option Bool
  | .non, .non => some true
  | .bl _, .non => some false
  | .int _, .non => some false
  | .str _, .non => some false
  | .tup _, .non => some false
  | .lst _, .non => some false
  | .dic _ _, .non => some false
  | .bl a, .bl b => some (decide (a = b))
  | _, _ => none
abbrev rIsA : R2 := fun x y H Q => (y = .non ∧ Q (.bl (decide (x = .non))) H) ∨ rIsB x y H Q
abbrev rIsNA : R2 := fun x y H Q => (y = .non ∧ Q (.bl (!decide (x = .non))) H) ∨ rNotB x y H Q
theorem isD_ok {k : Bool} (hx : Rep c H x d) (hy : Rep c H y d') (q : isDt d d' = some k) : (y = .non ∧ decide (x = .non) = k) ∨ ∃ a b : Bool, x = .bl a ∧ y = .bl b ∧ decide (a = b) = k := by
  unfold isDt at q
  split at q
  · cases q; cases hx; cases hy; exact .inl ⟨rfl, rfl⟩
  · cases q; cases hx; cases hy; exact .inl ⟨rfl, rfl⟩
  · cases q; cases hx; cases hy; exact .inl ⟨rfl, rfl⟩
  · cases q; cases hx; cases hy; exact .inl ⟨rfl, rfl⟩
  · cases q; cases hx; cases hy; exact .inl ⟨rfl, rfl⟩
  · cases q; cases hx; cases hy; exact .inl ⟨rfl, rfl⟩
  · cases q; cases hx; cases hy; exact .inl ⟨rfl, rfl⟩
  · cases q; cases hx; cases hy; exact .inr ⟨_, _, rfl, rfl, rfl⟩
  · cases q
theorem cm_is : CmpR c X .Is isDt := ⟨rIsA, op_isN.or op_isBl, fun as H x y d e rv hd hx hy o Q q => by
  obtain ⟨k, ho, rfl⟩ := cmpD_of o
  replace o := ho
  rcases isD_ok hx.full hy.full o with ⟨h1, h2⟩ | ⟨a, b, h1, h2, h3⟩
  · exact .inl ⟨h1, by rw [h2]; exact q _ H (.refl _) (.bl _)⟩
  · exact .inr ⟨a, b, h1, h2, by rw [h3]; exact q _ H (.refl _) (.bl _)⟩⟩
def isNotD (d e : Dt) : Option Bool := (isDt d e).map (!·)
theorem cm_isnot : CmpR c X .IsNot isNotD := ⟨rIsNA, op_notN.or op_notBl, fun as H x y d e rv hd hx hy o Q q => by
  obtain ⟨k, ho, rfl⟩ := cmpD_of o
  replace o := ho
  unfold isNotD at o
  cases o1 : isDt d e with
  | none => rw [o1] at o; cases o
  | some k' =>
    rw [o1] at o
    cases o
    rcases isD_ok hx.full hy.full o1 with ⟨h1, h2⟩ | ⟨a, b, h1, h2, h3⟩
    · exact .inl ⟨h1, by rw [h2]; exact q _ H (.refl _) (.bl _)⟩
    · exact .inr ⟨a, b, h1, h2, by rw [h3]; exact q _ H (.refl _) (.bl _)⟩⟩
def eCmp (o : Dt → Dt → Option Bool) (f g : Ev → Mo Rv) : Ev → Mo Rv := eBin (cmpD o) f g
def bCmp (o : Dt → Dt → Option Bool) (f g : Ev → Mo Rv) : Ev → Mo Bool := fun env => (f env).bind fun x => (g env).bind fun y => Mo.of (o x.2 y.2)
theorem de_cmp {op : CmpOp} {o : Dt → Dt → Option Bool} (hr : CmpR c X op o) (ha : DE c X E a f) (hb : DE c X E b g) (hm : behindInMarks op b = false := by first | exact nomark _ | rfl) : DE c X E (.Compare a [op] [b] pos) (eCmp o f g) :=
  let ⟨_, pa, ra⟩ := ha; let ⟨_, pb, rb⟩ := hb; let ⟨_, h1, h2⟩ := hr.at'; ⟨_, pe_cmpR h1 pa pb hm, rf_op h2 ra rb⟩
theorem rf_test {r : R2} {o : Dt → Dt → Option Bool} (ho : OpD c r (cmpD o)) (ra : RfE c E ta f) (rb : RfE c E tb g) : RfT c E (tTest (tOp r ta tb)) (bCmp o f g) := fun φ as σ H env R =>
  (ra φ as σ H env R).bind fun x H1 rv1 _ g1 r1 => (rb φ as σ H1 env (R.gr g1)).bind fun y H2 rv2 _ g2 r2 => .of fun k e Q q =>
    have h1 := R.hid.gr g1
    ho as H2 x y rv1.2 rv2.2 (.sh, .bl k) (h1.gr g2) ((r1.rc R.hid).gr h1 g2) (r2.rc h1) (by unfold cmpD; rw [e]; rfl) _ fun v H' g3 r3 => ⟨k, rep_bl r3, q k H' g3 rfl⟩
theorem dt_cmp {op : CmpOp} {o : Dt → Dt → Option Bool} (hr : CmpR c X op o) (ha : DE c X E a f) (hb : DE c X E b g) (hm : behindInMarks op b = false := by first | exact nomark _ | rfl) : DT c X E (.Compare a [op] [b] pos) (bCmp o f g) :=
  let ⟨_, pa, ra⟩ := ha; let ⟨_, pb, rb⟩ := hb; let ⟨_, h1, h2⟩ := hr.at'; ⟨_, pt_cmpR h1 pa pb hm, rf_test h2 ra rb⟩
def truD : Dt → Option Bool
  | .non => some false
  | .bl b => some b
  | .int i => some (i != 0)
  | .str x => if x.length ≤ 1000000 then some ((x.length : Int) != 0) else none
  | .tup xs => some (!xs.isEmpty)
  | .lst xs => some (!xs.isEmpty)
  | _ => none
theorem RepAll.empty {vs : List V} {ds : List Dt} (r : RepAll c H vs ds) : vs.isEmpty = ds.isEmpty := by cases r <;> rfl
theorem tru_of {k : Bool} (h : RepC c as H x d) (e : truD d = some k) : TruV c.K x H k := by
  unfold truD at e
  split at e
  · cases e; rw [repC_non h]; exact rfl
  · cases e; rw [repC_bl h]; exact rfl
  · cases e; rw [repC_int h]; exact rfl
  · split at e
    · rename_i hl; cases e; rw [repC_str h]; exact ⟨small6 hl, rfl⟩
    · cases e
  · cases e
    obtain ⟨a, vs, rfl, s, r⟩ := repC_tup h
    exact .inr (.inl ⟨vs, s, by rw [r.empty]⟩)
  · cases e
    obtain ⟨a, vs, rfl, s, r⟩ := repC_lst h
    exact .inl ⟨vs, .of s, by rw [r.empty]⟩
  · cases e
def bTru (f : Ev → Mo Rv) : Ev → Mo Bool := fun env => (f env).bind fun x => Mo.of (truD x.2)
theorem dt_tru (ha : DE c X E a f) (hK : X.K = c.K := by rfl) (he : ∀ whole, isTrue a X.env whole = (do let v ← whole; standAt a.pos; holding [v] (truthy v)) := by intro _; rfl) : DT c X E a (bTru f) := by
  obtain ⟨t, pa, ra⟩ := ha
  refine ⟨_, pt_truth pa he, fun φ as σ H env R => (ra φ as σ H env R).bind fun x H1 rv1 _ g1 r1 => .of fun k e Q q => ?_⟩
  exact ⟨k, by rw [hK]; exact tru_of (r1.rc R.hid) e, q k H1 (.refl _) rfl⟩
def DW (c : Ct) (X : Cx) (E : XK) (e : Expr) (f : Ev → Mo Bool) : Prop := ∃ t, PW X e t ∧ RfT c E t f
theorem DW.dt {f : Ev → Mo Bool} (h : DW c X E e f) : DT c X E e f := let ⟨_, p, r⟩ := h; ⟨_, p.pt, r⟩
variable {p q : Ev → Mo Bool} {tA tB' : TT} {rest : List Expr}
def bAnd (p q : Ev → Mo Bool) : Ev → Mo Bool := fun env => (p env).bind fun k => if k = true then q env else .ok false
def bOr (p q : Ev → Mo Bool) : Ev → Mo Bool := fun env => (p env).bind fun k => if k = true then .ok true else q env
def bNot (p : Ev → Mo Bool) : Ev → Mo Bool := fun env => (p env).bind fun k => .ok (!k)
theorem dw_and1 (ha : DT c X E a p) : DW c X E (.BoolOp .And [a] pos) p := let ⟨_, pa, ra⟩ := ha; ⟨_, pw_and1 pa, ra⟩
theorem dw_or1 (ha : DT c X E a p) : DW c X E (.BoolOp .Or [a] pos) p := let ⟨_, pa, ra⟩ := ha; ⟨_, pw_or1 pa, ra⟩
theorem dw_and (ha : DT c X E a p) (hb : DW c X E (.BoolOp .And (b :: rest) pos) q) : DW c X E (.BoolOp .And (a :: b :: rest) pos) (bAnd p q) := by
  obtain ⟨t, pa, ra⟩ := ha
  obtain ⟨u, pb, rb⟩ := hb
  refine ⟨_, pw_and pa pb, fun φ as σ H env R => (ra φ as σ H env R).bind fun k H1 k' _ g1 r1 => ?_⟩
  subst r1
  cases k with
  | true => exact rb φ as σ H1 env (R.gr g1)
  | false => exact .pure (R := fun b _ k => b = k) rfl
theorem dw_or (ha : DT c X E a p) (hb : DW c X E (.BoolOp .Or (b :: rest) pos) q) : DW c X E (.BoolOp .Or (a :: b :: rest) pos) (bOr p q) := by
  obtain ⟨t, pa, ra⟩ := ha
  obtain ⟨u, pb, rb⟩ := hb
  refine ⟨_, pw_or pa pb, fun φ as σ H env R => (ra φ as σ H env R).bind fun k H1 k' _ g1 r1 => ?_⟩
  subst r1
  cases k with
  | true => exact .pure (R := fun b _ k => b = k) rfl
  | false => exact rb φ as σ H1 env (R.gr g1)
theorem dt_not (ha : DT c X E a p) : DT c X E (.UnaryOp .Not a pos) (bNot p) := by
  obtain ⟨t, pa, ra⟩ := ha
  refine ⟨_, pt_not pa, fun φ as σ H env R => (ra φ as σ H env R).bind fun k H1 k' _ g1 r1 => ?_⟩
  subst r1
  exact .pure (R := fun b _ k => b = k) rfl
/-- as values -/
def eAnd (f g : Ev → Mo Rv) : Ev → Mo Rv := fun env => (f env).bind fun x => match x.2 with
  | .bl true => g env
  | .bl false => .ok (.sh, .bl false)
  | _ => .no
theorem de_one {op : BoolOp} (h : DE c X E a f) : DE c X E (.BoolOp op [a] pos) f := let ⟨_, pa, ra⟩ := h; ⟨_, pe_one pa, ra⟩
theorem Tr.no {α β : Type} {R : α → Hp → β → Prop} {t : (α → Hp → Prop) → Prop} : Tr c E H R t .no := ⟨fun _ e => (by cases e), fun _ _ e => (by cases e)⟩
theorem Tr.wrap {α β γ δ : Type} {R : α → Hp → β → Prop} {P : Prop} {t : (α → Hp → Prop) → Prop} {m : Mo β} (h : Tr c E H R t m) (p : P) : Tr c E H R (fun Q => P ∧ t Q) m := ⟨fun b e Q q => ⟨p, h.ok b e Q q⟩, fun k n e q Q => ⟨p, h.ex k n e q Q⟩⟩
theorem Tr.exi {α β ι : Type} {R : α → Hp → β → Prop} {t : ι → (α → Hp → Prop) → Prop} {m : Mo β} (i : ι) (h : Tr c E H R (t i) m) : Tr c E H R (fun Q => ∃ i, t i Q) m := ⟨fun b e Q q => ⟨i, h.ok b e Q q⟩, fun k n e q Q => ⟨i, h.ex k n e q Q⟩⟩
theorem de_and (ha : DE c X E a f) (hb : DE c X E (.BoolOp .And (b :: rest) pos) g) : DE c X E (.BoolOp .And (a :: b :: rest) pos) (eAnd f g) := by
  obtain ⟨t, pa, ra⟩ := ha
  obtain ⟨u, pb, rb⟩ := hb
  refine ⟨_, pe_and pa pb, fun φ as σ H env R => (ra φ as σ H env R).bind fun x H1 rv _ g1 r1 => ?_⟩
  have hx := (r1.rc R.hid)
  obtain ⟨k, d⟩ := rv
  dsimp only at hx ⊢
  split
  · rw [repC_bl hx]
    refine .exi true (.wrap (γ := Unit) (δ := Unit) ?_ rfl)
    exact (rb φ as σ H1 env (R.gr g1)).imp fun v H' rv g' r => RvR.back g1 r
  · rw [repC_bl hx]
    exact .exi false (.wrap (γ := Unit) (δ := Unit) (.pure (R := fun v H' rv => RvR c as H H' v rv) (.bl _)) rfl)
  · exact .no
def eIf (p : Ev → Mo Bool) (f g : Ev → Mo Rv) : Ev → Mo Rv := fun env => (p env).bind fun k => if k = true then f env else g env
theorem de_if {cc : Expr} (hc : DT c X E cc p) (ha : DE c X E a f) (hb : DE c X E b g) : DE c X E (.IfExp cc a b pos) (eIf p f g) := by
  obtain ⟨t, pc, rc⟩ := hc
  obtain ⟨ta, pa, ra⟩ := ha
  obtain ⟨u, pb, rb⟩ := hb
  refine ⟨_, pe_ifExp pc pa pb, fun φ as σ H env R => (rc φ as σ H env R).bind fun k H1 k' _ g1 r1 => ?_⟩
  subst r1
  cases k with
  | true => exact (ra φ as σ H1 env (R.gr g1)).imp fun v H' rv g' r => RvR.back g1 r
  | false => exact (rb φ as σ H1 env (R.gr g1)).imp fun v H' rv g' r => RvR.back g1 r
end
end Pm
set_option maxHeartbeats 4000000
set_option maxHeartbeats 4000000
set_option maxHeartbeats 4000000
namespace Pm
open PySem PySem.Spec PyProof.Rows L2 GxR GX
variable [LamTab]
def skey (e : Int × Value) : Str := match e.2 with | .str k _ => k | _ => Str.empty
def SGood (P : Program) (w : World) (e : Int × Value) : Prop := ∃ k tk, e.2 = Value.str k tk ∧ e.1 = (PySem.strKind P w).hash k
/-- the set at a: its texts are those of L, in some order -/
def SSet (P : Program) (w : World) (h : Heap) (a : Addr) (L : List Str) : Prop :=
  ∃ o es ep t, h.get? a = some o ∧ o.ExactSet ∧ o.data = .set es ep t ∧ (∀ e ∈ es.toList, SGood P w e) ∧ (es.toList.map skey).Perm L ∧ L.Nodup ∧ es.size < scanBound ∧ t.fits es.size = true ∧ Ris t.place.toList ∧ (w.params.followText "set-order" = true ∨ t.led = true)
section
variable {P : Program} {w : World} {h h' : Heap} {a : Addr} {L : List Str}
theorem SSet.keep (R : SSet P w h a L) (k : ∀ o, h.get? a = some o → h'.get? a = some o) : SSet P w h' a L := let ⟨o, es, ep, t, ho, r⟩ := R; ⟨o, es, ep, t, k o ho, r⟩
end
end Pm
set_option maxHeartbeats 4000000
set_option maxHeartbeats 4000000
set_option maxHeartbeats 4000000
namespace Pm
open PySem PySem.Spec PyProof.Rows L2 GxR GX
variable [LamTab]
def dgl {α : Type} : List DK → List α → DK → Option α
  | k :: ks, v :: vs, x => if k = x then some v else dgl ks vs x
  | _, _, _ => none
theorem dgl_val {κvs : List (Key × V)} {k : Key} : dgl (κvs.map fun p => DK.k p.1) (κvs.map (·.2)) (.k k) = valV κvs k := by
  induction κvs with
  | nil => rfl
  | cons p r ih =>
    obtain ⟨k', v⟩ := p
    simp only [List.map_cons, dgl]
    by_cases e : k' = k
    · subst e; rw [if_pos rfl, valV_pos rfl]
    · rw [if_neg (fun z => e (DK.k.inj z)), valV_neg e]; exact ih
theorem dgl_rep {c : Ct} {H : Hp} {k : DK} : ∀ {ks : List DK} {vs : List V} {ds : List Dt} {d : Dt}, RepAll c H vs ds → dgl ks ds k = some d → ∃ v, dgl ks vs k = some v ∧ Rep c H v d
  | [], _, _, _, _, e => by simp [dgl] at e
  | _ :: _, _, _, _, .nil, e => by simp [dgl] at e
  | k' :: ks, _, _, d, .cons a b, e => by
    simp only [dgl] at e ⊢
    by_cases h : k' = k
    · rw [if_pos h] at e ⊢; cases e; exact ⟨_, rfl, a⟩
    · rw [if_neg h] at e ⊢; exact dgl_rep b e
/-- a key: an int or a text -/
def keyD : Dt → Option Key
  | .int i => some (.inl i)
  | .str x => some (.inr x)
  | _ => none
theorem keyD_ok {c : Ct} {H : Hp} {y : V} {d : Dt} {k : Key} (h : Rep c H y d) (e : keyD d = some k) : y = kV k := by
  unfold keyD at e
  split at e <;> first | (cases e; cases h; rfl) | cases e
theorem dcAt_get {H : Hp} {a : Addr} {ks : List DK} {vs : List V} {k : Key} (h : DcAt H a ks vs) : DGet H a (kV k) (dgl ks vs (.k k)) := by
  obtain ⟨kvs, h, rfl, rfl⟩ := h
  rw [dgl_val]
  exact .inl ⟨kvs, k, h, rfl, rfl⟩
section
variable {c : Ct} {X : Cx} {E : XK} {pos : Pos} {a b e : Expr} {f g h : Ev → Mo Rv} {ta tb : TE} {as : List Addr} {H : Hp} {x y : V} {d d' : Dt}
def ixD : Dt → Dt → Option Rv
  | .lst xs, .int i => (atI xs i).map fun d => (.sh, d)
  | .tup xs, .int i => (atI xs i).map fun d => (.sh, d)
  | .scr ns, .int i => (atI ns i).map fun n => (.sh, .int n)
  | .str z, .int i => if z.length ≤ 1000000 then (atI z.cps.toList i).map fun s => (.sh, .str ⟨#[s]⟩) else none
  | .dic ks vs, k => (keyD k).bind fun k => (dgl ks vs (.k k)).map fun d => (.sh, d)
  | _, _ => none
def rDic : R2 := fun x y H Q => ∃ a v, x = .ref a ∧ DGet H a y (some v) ∧ Q v H
theorem ix_dic (hu : X.A.units + 1 < cLine) : IxR X rDic := by
  intro value slice pins s σ H x y v u Q I rx ry h hs
  obtain ⟨a, z, rfl, g, q⟩ := h
  obtain rfl : v = Value.ref a := rx
  exact tail_any (dict_typeIs I g) slot_dict_getitem.lookup (d_getItem hu I g ry fun w' s3 I3 rw' => ⟨z, H, I3, rw', q⟩) hs
abbrev rIxA (K : PySem.W.Frag) : R2 := fun x y H Q => rIx K x y H Q ∨ rDic x y H Q
theorem RepAll.atI {vs : List V} {ds : List Dt} {i : Int} {d : Dt} (r : RepAll c H vs ds) (h : atI ds i = some d) : ∃ v, L2.atI vs i = some v ∧ Rep c H v d := by
  unfold L2.atI at h ⊢
  rw [r.length]
  cases q : ixN ds.length i with
  | none => rw [q] at h; cases h
  | some j =>
    rw [q] at h
    exact r.getD h
theorem od_ix : OpD c (rIxA c.K) ixD := fun as H x y d e rv hd hx hy o Q q => by
  unfold ixD at o
  split at o
  · obtain ⟨d, o1, rfl⟩ := Option.map_eq_some_iff.mp o
    obtain ⟨a, vs, rfl, s, r⟩ := repC_lst hx
    rw [repC_int hy]
    obtain ⟨v, h1, h2⟩ := r.atI o1
    exact .inl (.inl ⟨a, vs, _, v, rfl, rfl, .of s, h1, q _ H (.refl _) h2⟩)
  · obtain ⟨d, o1, rfl⟩ := Option.map_eq_some_iff.mp o
    obtain ⟨a, vs, rfl, s, r⟩ := repC_tup hx
    rw [repC_int hy]
    obtain ⟨v, h1, h2⟩ := r.atI o1
    exact .inl (.inr (.inl ⟨a, vs, _, v, rfl, rfl, s, h1, q _ H (.refl _) h2⟩))
  · rename_i ns i
    obtain ⟨n, o1, rfl⟩ := Option.map_eq_some_iff.mp o
    obtain ⟨a, rfl, s⟩ := repC_scr hx
    rw [repC_int hy]
    refine .inl (.inl ⟨a, _, _, .int n, rfl, rfl, s, ?_, q _ H (.refl _) (.int n)⟩)
    unfold L2.atI at o1 ⊢
    rw [List.length_map]
    cases z : ixN ns.length i with
    | none => rw [z] at o1; cases o1
    | some j =>
      rw [z] at o1
      show (ns.map V.int)[j]? = _
      rw [List.getElem?_map, show ns[j]? = some n from o1]
      rfl
  · split at o
    · rename_i hl
      obtain ⟨n, o1, rfl⟩ := Option.map_eq_some_iff.mp o
      rw [repC_int hy, repC_str hx]
      exact .inl (.inr (.inr ⟨_, _, n, rfl, rfl, small6 hl, o1, q _ H (.refl _) (.str _)⟩))
    · cases o
  · rename_i ks vs
    cases e1 : keyD e with
    | none => rw [e1] at o; cases o
    | some k =>
      rw [e1] at o
      obtain ⟨d, o1, rfl⟩ := Option.map_eq_some_iff.mp o
      obtain ⟨a, ws, rfl, s, r⟩ := repC_dic hx
      obtain ⟨v, h1, h2⟩ := dgl_rep r o1
      refine .inr ⟨a, v, rfl, ?_, q _ H (.refl _) h2⟩
      rw [keyD_ok hy.full e1, ← h1]
      exact dcAt_get s
  · cases o
def eIx (f g : Ev → Mo Rv) : Ev → Mo Rv := eBin ixD f g
theorem de_ix (hu : X.A.units + 1 < cLine) (ha : DE c X E a f) (hb : DE c X E b g) (hK : X.K = c.K := by rfl) (hs : PlainIx b := by exact fun _ _ => rfl) : DE c X E (.Subscript a b pos) (eIx f g) :=
  let ⟨_, pa, ra⟩ := ha; let ⟨_, pb, rb⟩ := hb; ⟨_, pe_ix (ix_seq.or (ix_dic hu)) pa pb hs, rf_op (by rw [hK]; exact od_ix) ra rb⟩
def KD (c : Ct) (x : Str) (tb : List (Str × Dt)) : Prop := ∃ a es n, c.mg x = some (.ref a) ∧ KDict c.K c.w a es n ∧ ∀ z, match tb.lookup z with
  | some d => ∃ u v, PySem.W.nsIn c.K a z = some (some u) ∧ RelV v u ∧ ∀ H, Rep c H v d
  | none => PySem.W.nsIn c.K a z = some none
def eTab (tb : List (Str × Dt)) (g : Ev → Mo Rv) : Ev → Mo Rv := fun env => (g env).bind fun y => match y.2 with
  | .str z => Mo.of ((tb.lookup z).map fun d => (.sh, d))
  | _ => .no
/-- what such a dict tells of its keys -/
def KD1 (c : Ct) (x : Str) (tb : List (Str × Dt)) : Prop := ∃ a, c.mg x = some (.ref a) ∧ ∀ z d, tb.lookup z = some d → ∃ v, KDct c.K c.w a z v ∧ ∀ H, Rep c H v d
theorem KD.one {x : Str} {tb : List (Str × Dt)} (T : KD c x tb) : KD1 c x tb := by
  obtain ⟨a, es, n, m1, D, T⟩ := T
  refine ⟨a, m1, fun z d e => ?_⟩
  have t := T z
  rw [e] at t
  obtain ⟨u, v, t1, t2, t3⟩ := t
  exact ⟨v, ⟨es, n, u, D.at_, D.lit, t1, t2⟩, t3⟩
theorem de_tab {x : Str} {tb : List (Str × Dt)} {p : Pos} (T : KD1 c x tb) (hb : DE c X E b g) (hK : X.K = c.K := by rfl) (hw : X.w = c.w := by rfl) (hm : X.mg = c.mg := by rfl) (hg : Gl X x := by rfl) (hd : (x == ("__debug__" : Str)) = false := by decide) (hs : PlainIx b := by exact fun _ _ => rfl) :
    DE c X E (.Subscript (.Name x p) b pos) (eTab tb g) := by
  obtain ⟨a, m1, T⟩ := T
  obtain ⟨tb', pb, rb⟩ := hb
  refine ⟨_, pe_ix ix_kdict (pe_glob (v := .ref a) hg (by rw [hm]; exact m1) rfl hd) pb hs, fun φ as σ H env R => (rb φ as σ H env R).bind fun y H1 rv he g1 r1 => ?_⟩
  clear he
  have hy := r1.rc R.hid
  obtain ⟨k, d⟩ := rv
  dsimp only at hy ⊢
  split
  · rename_i z
    refine .of fun rv e Q q => ?_
    obtain ⟨d, o1, rfl⟩ := Option.map_eq_some_iff.mp e
    obtain ⟨v, t1, t3⟩ := T z d o1
    rw [repC_str hy]
    exact ⟨a, z, v, rfl, rfl, by rw [hK, hw]; exact t1, q _ H1 (.refl _) (t3 _)⟩
  · exact .no
def tabIn (neg : Bool) (tb : List (Str × Dt)) (g : Ev → Mo Rv) : Ev → Mo Bool := fun env => (g env).bind fun y => match y.2 with
  | .str z => .ok (neg != (tb.lookup z).isSome)
  | _ => .no
theorem kd_in {x : Str} {tb : List (Str × Dt)} {a : Addr} {z : Str} (T : match tb.lookup z with
  | some d => ∃ u v, PySem.W.nsIn c.K a z = some (some u) ∧ RelV v u ∧ ∀ H, Rep c H v d
  | none => PySem.W.nsIn c.K a z = some none) : ∃ r, PySem.W.nsIn c.K a z = some r ∧ r.isSome = (tb.lookup z).isSome := by
  cases q : tb.lookup z with
  | none => rw [q] at T; exact ⟨none, T, rfl⟩
  | some d =>
    rw [q] at T
    obtain ⟨u, v, t1, _⟩ := T
    exact ⟨some u, t1, rfl⟩
theorem dt_tabNotIn {x : Str} {tb : List (Str × Dt)} {p : Pos} (T : KD c x tb) (hb : DE c X E b g) (hK : X.K = c.K := by rfl) (hw : X.w = c.w := by rfl) (hm : X.mg = c.mg := by rfl) (hg : Gl X x := by rfl) (hd : (x == ("__debug__" : Str)) = false := by decide) :
    DT c X E (.Compare b [.NotIn] [.Name x p] pos) (tabIn true tb g) := by
  obtain ⟨a, es, n, m1, D, T⟩ := T
  obtain ⟨tb', pb, rb⟩ := hb
  have D' : KDict X.K X.w a es n := by rw [hK, hw]; exact D
  refine ⟨_, pt_cmpR (op_notIn_kd D') pb (pe_glob (v := .ref a) hg (by rw [hm]; exact m1) rfl hd) (by rfl), fun φ as σ H env R => (rb φ as σ H env R).bind fun y H1 rv he g1 r1 => ?_⟩
  clear he
  have hy := r1.rc R.hid
  obtain ⟨k, d⟩ := rv
  dsimp only at hy ⊢
  split
  · rename_i z
    obtain ⟨r, t1, t2⟩ := kd_in (x := x) (T z)
    rw [repC_str hy]
    refine ⟨fun k e Q q => ?_, fun k n e => by cases e⟩
    cases e
    exact ⟨z, r, rfl, rfl, by rw [hK]; exact t1, _, rfl, by rw [t2]; exact q _ H1 (.refl _) (by cases (tb.lookup z).isSome <;> rfl)⟩
  · exact .no
def cutD {α : Type} (xs : List α) (lo hi : Option Int) : List α := (xs.drop (HT.sIx xs.length 0 lo)).take (HT.sIx xs.length xs.length hi - HT.sIx xs.length 0 lo)
def slD : Dt → Option Int → Option Int → Option Rv
  | .lst xs, lo, hi => some (.nw, .lst (cutD xs lo hi))
  | .tup xs, lo, hi => some (.sh, .tup (cutD xs lo hi))
  | .str z, lo, hi => if z.length ≤ 1000000 then some (.sh, .str (cutS z lo hi)) else none
  | _, _, _ => none
theorem RepAll.cut {vs : List V} {ds : List Dt} {lo hi : Option Int} (r : RepAll c H vs ds) : RepAll c H (cutV vs lo hi) (cutD ds lo hi) := by
  unfold cutV cutD
  rw [r.length]
  exact (r.drop _).take _
def oNone : Ev → Mo (Option Int) := fun _ => .ok none
def oSome (f : Ev → Mo Rv) : Ev → Mo (Option Int) := fun env => (f env).bind fun x => match x.2 with
  | .int i => .ok (some i)
  | _ => .no
def RfO (c : Ct) (E : XK) (t : TO) (f : Ev → Mo (Option Int)) : Prop := ∀ φ as σ H env, Rel c φ as σ H env → Tr c E H (fun o _ k => o = k) (t σ H) (f env)
def DO (c : Ct) (X : Cx) (E : XK) (e : Option Expr) (f : Ev → Mo (Option Int)) : Prop := ∃ t, PO X e t ∧ RfO c E t f
theorem do_none : DO c X E none oNone := ⟨_, po_none, fun φ as σ H env R => .pure rfl⟩
theorem do_some (ha : DE c X E a f) : DO c X E (some a) (oSome f) := by
  obtain ⟨t, pa, ra⟩ := ha
  refine ⟨_, po_some pa, fun φ as σ H env R => (ra φ as σ H env R).bind fun x H1 rv he g1 r1 => ?_⟩
  clear he
  have hx := r1.rc R.hid
  obtain ⟨k, d⟩ := rv
  dsimp only at hx ⊢
  split
  · rename_i i
    rw [repC_int hx]
    exact .exi i (.wrap (γ := Unit) (δ := Unit) (.pure (R := fun o _ k => o = k) rfl) rfl)
  · exact .no
def eSl (f : Ev → Mo Rv) (p q : Ev → Mo (Option Int)) : Ev → Mo Rv := fun env => (f env).bind fun x => (p env).bind fun lo => (q env).bind fun hi => Mo.of (slD x.2 lo hi)
theorem de_sl {lo hi : Option Expr} {p q : Ev → Mo (Option Int)} {p2 : Pos} (ha : DE c X E a f) (hl : DO c X E lo p) (hh : DO c X E hi q) (hK : X.K = c.K := by rfl) : DE c X E (.Subscript a (.Slice lo hi none p2) pos) (eSl f p q) := by
  obtain ⟨t, pa, ra⟩ := ha
  obtain ⟨tl, pl, rl⟩ := hl
  obtain ⟨th, ph, rh⟩ := hh
  refine ⟨_, pe_slice (sl_list.or (sl_tupA.or sl_str)) pa pl ph, fun φ as σ H env R => (ra φ as σ H env R).bind fun x H1 rv1 he1 g1 r1 => (rl φ as σ H1 env (R.gr g1)).bind fun l H2 l' he2 g2 e2 => (rh φ as σ H2 env ((R.gr g1).gr g2)).bind fun u H3 u' he3 g3 e3 => .of fun rv e Q q => ?_⟩
  subst e2 e3
  have h1 := R.hid.gr g1
  have h2 := h1.gr g2
  have h3 := h2.gr g3
  have hx := ((r1.rc R.hid).gr h1 g2).gr h2 g3
  have g13 := (g1.trans g2).trans g3
  clear he1 he2 he3 r1
  generalize rv1.2 = d1 at hx e
  unfold slD at e
  split at e
  · cases e
    rename_i xs
    obtain ⟨a, vs, rfl, s, r⟩ := repC_lst hx
    exact .inl ⟨a, vs, rfl, .of s, fun p np => q _ _ (.new np) (RvR.back g13 (rv_lst np r.cut))⟩
  · cases e
    rename_i xs
    obtain ⟨a, vs, rfl, s, r⟩ := repC_tup hx
    refine .inr (.inl ⟨a, vs, rfl, by rw [hK]; exact s, fun w => ?_, fun _ p np => q _ _ (.new np) (RvR.back g13 (rv_tup h3 np r.cut))⟩)
    rcases hx with hx | ⟨_, _, _, _, _, hx⟩
    · have ee : cutD xs l u = xs := by
        unfold cutD
        rw [r.length] at w
        rw [w.1, w.2, List.drop_zero, Nat.sub_zero, List.take_length]
      rw [ee] at q
      exact q _ H3 (.refl _) hx
    · cases hx
  · rename_i z
    split at e
    · rename_i hl; cases e
      rw [repC_str hx]
      exact .inr (.inr ⟨z, rfl, small6 hl, q _ H3 (.refl _) (.str _)⟩)
    · cases e
  · cases e
end
end Pm
set_option maxHeartbeats 4000000
namespace Pm
open PySem PySem.Spec PyProof.Rows L2 GxR GX
variable [LamTab]
theorem wipe_off {σ : L2.St} {j : Nat} : ∀ {vs : List Nat}, j ∉ vs → (wipe σ vs)[j]? = σ[j]? := wipe_out
theorem wipe_twice (σ : L2.St) (vs : List Nat) : wipe (wipe σ vs) vs = wipe σ vs := by
  apply List.ext_getElem?
  intro j
  by_cases h : j ∈ vs
  · have nn : ∀ (τ : L2.St), j < τ.length → (wipe τ vs)[j]? = some none := fun τ hj => by
      cases q : (wipe τ vs)[j]? with
      | none => rw [List.getElem?_eq_none_iff, wipe_length] at q; omega
      | some o =>
        cases o with
        | none => rfl
        | some v => exact absurd h (wipe_some q).2
    by_cases hj : j < σ.length
    · rw [nn _ (by rw [wipe_length]; exact hj), nn _ hj]
    · rw [List.getElem?_eq_none (by rw [wipe_length, wipe_length]; omega), List.getElem?_eq_none (by rw [wipe_length]; omega)]
  · rw [wipe_off h]
end Pm
set_option maxHeartbeats 4000000
set_option maxHeartbeats 4000000
set_option maxHeartbeats 4000000
namespace Pm
open PySem PySem.Spec PyProof.Rows L2 GxR GX
variable [LamTab]
/-- J walks these data, as things stand -/
structure WkAt (c : Ct) (J : It) (ds : List Dt) (as : List Addr) (H : Hp) : Prop where
  go : ∀ i, i < ds.length → J.go i H
  stop : J.stop ds.length H
  yld : ∀ (i : Nat) (d : Dt) (x : V) (H' : Hp), ds[i]? = some d → J.yld i H x H' → Gr H H' ∧ Rep c (hideL H' as) x d
/-- .. as long as nothing is changed; as long as nothing open is -/
def WkE (c : Ct) (as : List Addr) (J : It) (H1 : Hp) (ds : List Dt) : Prop := ∀ as' H, Hid as' H → (∀ a ∈ as, H a = H1 a) → Gr (hideL H1 as) (hideL H as') → WkAt c J ds as' H
def WkS (c : Ct) (as : List Addr) (J : It) (H1 : Hp) (ds : List Dt) : Prop := ∀ as' H, Hid as' H → Gr (hideL H1 as) (hideL H as') → WkAt c J ds as' H
abbrev Wv := Kd × List Dt
def WkK (c : Ct) (as : List Addr) (J : It) (H1 : Hp) (w : Wv) : Prop := WkE c as J H1 w.2 ∧ (w.1 ≠ .al → WkS c as J H1 w.2)
theorem WkS.k {c : Ct} {as : List Addr} {J : It} {H1 : Hp} {w : Wv} (h : WkS c as J H1 w.2) : WkK c as J H1 w := ⟨fun as' H hd _ g => h as' H hd g, fun _ => h⟩
section
variable {c : Ct} {as : List Addr} {H H1 : Hp} {a : Addr} {vs : List V} {ds : List Dt}
theorem wk_tup (s : SqT c.K (hideL H as) a vs) (r : RepAll c (hideL H as) vs ds) : WkS c as (Itt c.K a) H ds := fun as' H' hd g => by
  have s' : SqT c.K H' a vs := (hideL_le H' as').gr.sqT (g.sqT s)
  have r' := r.gr g
  refine ⟨fun i hi => ?_, ⟨vs, s', Nat.le_of_eq r.length⟩, fun i d x H2 e y => ?_⟩
  · rw [← r.length] at hi
    exact ⟨vs, vs[i], s', List.getElem?_eq_getElem hi⟩
  · obtain ⟨rfl, hy⟩ := y
    have hx := hy vs s'
    obtain ⟨d', e', q⟩ := r'.get hx
    rw [e] at e'; cases e'
    exact ⟨.refl _, q⟩
theorem wk_lst_at {as' : List Addr} {H' : Hp} (s' : SqL c.K H' a vs) (r' : RepAll c (hideL H' as') vs ds) : WkAt c (Itl c.K a) ds as' H' := by
  refine ⟨fun i hi => ?_, ⟨vs, s', Nat.le_of_eq r'.length⟩, fun i d x H2 e y => ?_⟩
  · rw [← r'.length] at hi
    exact ⟨vs, vs[i], s', List.getElem?_eq_getElem hi⟩
  · obtain ⟨rfl, hy⟩ := y
    have hx := hy vs s'
    obtain ⟨d', e', q⟩ := r'.get hx
    rw [e] at e'; cases e'
    exact ⟨.refl _, q⟩
theorem wk_lst (s : SqL c.K (hideL H as) a vs) (r : RepAll c (hideL H as) vs ds) : WkS c as (Itl c.K a) H ds := fun as' H' hd g =>
  wk_lst_at ((hideL_le H' as').gr.sqL (g.sqL s)) (r.gr g)
theorem wk_lstE (ha : a ∈ as) (s : H a = some (.lst vs)) (r : RepAll c (hideL H as) vs ds) : WkE c as (Itl c.K a) H ds := fun as' H' hd k g =>
  wk_lst_at (.of (by rw [k a ha]; exact s)) (r.gr g)
def signs (z : Str) : List Dt := z.cps.toList.map fun s => .str ⟨#[s]⟩
theorem wk_str {z : Str} : WkS c as (Its z) H (signs z) := fun as' H' hd g => by
  refine ⟨fun i hi => ?_, ?_, fun i d x H2 e y => ?_⟩
  · show i < z.cps.size
    simpa [signs] using hi
  · show z.cps.size ≤ (signs z).length
    simp [signs]
  · obtain ⟨rfl, s, h1, rfl⟩ := y
    refine ⟨.refl _, ?_⟩
    have : d = .str ⟨#[s]⟩ := by
      simp only [signs, List.getElem?_map, Array.getElem?_toList, h1, Option.map_some, Option.some.injEq] at e
      exact e.symm
    subst this
    exact .str _
def rng (lo : Int) (n : Nat) : List Dt := (List.range n).map fun (i : Nat) => .int (lo + i)
theorem rng_get {lo : Int} {n i : Nat} (h : i < n) : (rng lo n)[i]? = some (.int (lo + i)) := by
  simp [rng, List.getElem?_map, List.getElem?_range h]
theorem rng_len {lo : Int} {n : Nat} : (rng lo n).length = n := by simp [rng]
theorem wk_rng {lo : Int} {n : Nat} : WkS c as (Itr lo n) H (rng lo n) := fun as' H' hd g => by
  refine ⟨fun i hi => ?_, ?_, fun i d x H2 e y => ?_⟩
  · rw [rng_len] at hi; exact hi
  · show n ≤ (rng lo n).length
    rw [rng_len]; exact Nat.le_refl _
  · obtain ⟨rfl, rfl⟩ := y
    refine ⟨.refl _, ?_⟩
    have hi : i < n := by
      have := (List.getElem?_eq_some_iff.mp e).1
      rw [rng_len] at this; exact this
    rw [rng_get hi] at e
    cases e
    exact .int _
end
def RfI (c : Ct) (E : XK) (t : TI) (f : Ev → Mo Wv) : Prop := ∀ φ as σ H env, Rel c φ as σ H env → Tr c E H (fun J H' w => WkK c as J H' w) (t σ H) (f env)
def DI (c : Ct) (X : Cx) (E : XK) (tg it : Expr) (f : Ev → Mo Wv) : Prop := ∃ t, PI X tg it t ∧ RfI c E t f
theorem pi_or {X : Cx} {tg it : Expr} {t u : TI} (h : PI X tg it t) (h' : PI X tg it u) : PI X tg it (fun σ H R => t σ H R ∨ u σ H R) := ⟨fun pins s σ H R I q => by
  rcases q with q | q
  · exact h.run pins s σ H R I q
  · exact h'.run pins s σ H R I q⟩
theorem Tr.inl {α β : Type} {c : Ct} {E : XK} {H : Hp} {R : α → Hp → β → Prop} {t u : (α → Hp → Prop) → Prop} {m : Mo β} (h : Tr c E H R t m) : Tr c E H R (fun Q => t Q ∨ u Q) m := ⟨fun b e Q q => .inl (h.ok b e Q q), fun k n e q Q => .inl (h.ex k n e q Q)⟩
theorem Tr.inr {α β : Type} {c : Ct} {E : XK} {H : Hp} {R : α → Hp → β → Prop} {t u : (α → Hp → Prop) → Prop} {m : Mo β} (h : Tr c E H R u m) : Tr c E H R (fun Q => t Q ∨ u Q) m := ⟨fun b e Q q => .inr (h.ok b e Q q), fun k n e q Q => .inr (h.ex k n e q Q)⟩
section
variable {c : Ct} {X : Cx} {E : XK} {pos p : Pos} {a b e tg : Expr} {f g h : Ev → Mo Rv} {ta tb : TE}
def itD : Rv → Option Wv
  | (k, .lst ds) => some (k, ds)
  | (_, .tup ds) => some (.sh, ds)
  | (_, .str z) => some (.sh, signs z)
  | _ => none
def eIt (f : Ev → Mo Rv) : Ev → Mo Wv := fun env => (f env).bind fun x => Mo.of (itD x)
/-- a list or a tuple or a text -/
theorem di_seq (ha : DE c X E a f) (hK : X.K = c.K := by rfl) : DI c X E tg a (eIt f) := by
  obtain ⟨t, pa, ra⟩ := ha
  refine ⟨_, pi_or (pi_list pa) (pi_or (pi_tup pa) (pi_str pa)), fun φ as σ H env R => ?_⟩
  have T := ra φ as σ H env R
  unfold eIt
  cases m : f env with
  | no => exact .no
  | ex k n => rw [m] at T; exact .inl ⟨fun b e => (by cases e), fun k' n' e q Q => by cases e; exact T.ex k n rfl q _⟩
  | ok rv =>
    rw [m] at T
    obtain ⟨k, d⟩ := rv
    cases d with
    | lst ds =>
      refine .inl ⟨fun b e Q q => T.ok _ rfl _ fun v H1 g1 r1 => ?_, fun k' n' e => by cases e⟩
      cases e
      cases k with
      | al =>
        rcases r1 with r1 | ⟨a, o, rfl, ha, e1, r1⟩
        · cases r1 with
          | lst s r => exact ⟨_, rfl, ⟨_, .of ((hideL_some s).2)⟩, q _ H1 g1 (by rw [hK]; exact (wk_lst (.of s) r).k)⟩
        · cases r1 with
          | lst r => exact ⟨_, rfl, ⟨_, .of e1⟩, q _ H1 g1 (by rw [hK]; exact ⟨wk_lstE ha e1 r, fun z => absurd rfl z⟩)⟩
      | sh =>
        cases r1 with
        | lst s r => exact ⟨_, rfl, ⟨_, .of ((hideL_some s).2)⟩, q _ H1 g1 (by rw [hK]; exact (wk_lst (.of s) r).k)⟩
      | nw =>
        have r2 := RvR.keep R.hid g1 rfl r1
        cases r2 with
        | lst s r => exact ⟨_, rfl, ⟨_, .of ((hideL_some s).2)⟩, q _ H1 g1 (by rw [hK]; exact (wk_lst (.of s) r).k)⟩
    | tup ds =>
      refine .inr (.inl ⟨fun b e Q q => T.ok _ rfl _ fun v H1 g1 r1 => ?_, fun k' n' e => by cases e⟩)
      cases e
      have r2 := r1.rc R.hid
      rcases r2 with r2 | ⟨_, _, _, _, _, r2⟩
      · cases r2 with
        | tup s r => exact ⟨_, rfl, ⟨_, by rw [hK]; exact (hideL_le H1 as).gr.sqT s⟩, q _ H1 g1 (by rw [hK]; exact (wk_tup s r).k)⟩
      · cases r2
    | str z =>
      refine .inr (.inr ⟨fun b e Q q => T.ok _ rfl _ fun v H1 g1 r1 => ?_, fun k' n' e => by cases e⟩)
      cases e
      exact ⟨z, repC_str (r1.rc R.hid), q _ H1 g1 wk_str.k⟩
    | _ => exact .no
theorem rvrs1 {as : List Addr} {H0 H : Hp} {vs : List V} {r : Rv} (h : RvRs c as H0 H vs [r]) : ∃ v, vs = [v] ∧ RvR c as H0 H v r := by
  cases h with
  | cons a b => cases b; exact ⟨_, rfl, a⟩
def rngD1 : List Rv → Option Wv
  | [(_, .int j)] => if -(2 ^ 62) ≤ j ∧ j < 2 ^ 62 then some (.sh, rng 0 j.toNat) else none
  | _ => none
def eWv (o : List Rv → Option Wv) (fs : Ev → Mo (List Rv)) : Ev → Mo Wv := fun env => (fs env).bind fun xs => Mo.of (o xs)
theorem di_rng1 {fs : Ev → Mo (List Rv)} (hm : c.mg "range" = none) (ha : DA c X E [a] fs) (hmg : X.mg = c.mg := by rfl) (hg : Gl X "range" := by rfl) (hs : starEach [a] X.env = [(false, eval a X.env)] := by rfl) : DI c X E tg (.Call (.Name "range" p) [a] [] pos) (eWv rngD1 fs) := by
  obtain ⟨t, pa, ra⟩ := ha
  refine ⟨_, pi_range1 hg (by rw [hmg]; exact hm) pa hs, fun φ as σ H env R => (ra φ as σ H env R).bind fun vs H1 rvs he g1 rs => .of fun w e Q q => ?_⟩
  clear he
  unfold rngD1 at e
  split at e
  · split at e
    · rename_i hb; cases e
      obtain ⟨v, rfl, r⟩ := rvrs1 rs
      rw [repC_int (r.rc R.hid)]
      exact ⟨_, rfl, hb.1, hb.2, q _ H1 (.refl _) wk_rng.k⟩
    · cases e
  · cases e
end
end Pm
set_option maxHeartbeats 4000000
namespace Pm
open PySem PySem.Spec PyProof.Rows L2 GxR GX
variable [LamTab]
abbrev NoE : XK := fun _ _ _ => False
def wipeE (env : Ev) : List Nat → Ev
  | [] => env
  | v :: vs => (wipeE env vs).set v none
theorem Rel.wipe {c : Ct} {φ : Fx} {as : List Addr} {σ : L2.St} {H : Hp} {env : Ev} (R : Rel c φ as σ H env) : ∀ vs : List Nat, Rel c φ as (L2.wipe σ vs) H (wipeE env vs)
  | [] => R
  | v :: vs => (Rel.wipe R vs).unset
theorem wipe_set {σ : L2.St} {i : Nat} {x : Option V} : ∀ {vs : List Nat}, i ∈ vs → wipe (σ.set i x) vs = wipe σ vs
  | v :: vs, h => by
    unfold wipe
    by_cases e : i ∈ vs
    · rw [wipe_set e]
    · have hv : i = v := by
        rcases List.mem_cons.mp h with z | z
        · exact z
        · exact absurd z e
      subst hv
      apply List.ext_getElem?
      intro j
      rw [List.getElem?_set, List.getElem?_set, wipe_length, wipe_length, List.length_set]
      by_cases z : i = j
      · rw [if_pos z, if_pos z]
      · rw [if_neg z, if_neg z]
        by_cases y : j ∈ vs
        · rcases q : (wipe (σ.set i x) vs)[j]? with _ | _ | u
          · have l1 : σ.length ≤ j := by have := List.getElem?_eq_none_iff.mp q; rw [wipe_length, List.length_set] at this; exact this
            exact (List.getElem?_eq_none_iff.mpr (by rw [wipe_length]; exact l1)).symm
          · rcases q2 : (wipe σ vs)[j]? with _ | _ | u
            · have l1 : σ.length ≤ j := by have := List.getElem?_eq_none_iff.mp q2; rw [wipe_length] at this; exact this
              have l2 := (List.getElem?_eq_some_iff.mp q).1
              rw [wipe_length, List.length_set] at l2
              omega
            · rfl
            · exact absurd y (wipe_some q2).2
          · exact absurd y (wipe_some q).2
        · rw [wipe_out y, wipe_out y, List.getElem?_set, if_neg z]
def RfG (c : Ct) (g : TG) (p : Dt → Ev → Option Ev) (sl : List Nat) : Prop := ∀ φ as σ H env v d env', Rel c φ as σ H env → Rep c (hideL H as) v d → p d env = some env' → ∀ Q : L2.St → Hp → Prop,
  (∀ σ', Rel c φ as σ' H env' → (∀ vs, (∀ i ∈ sl, i ∈ vs) → wipe σ' vs = wipe σ vs) → (∀ (i : Nat) (d : Dt), env'[i]? = some (some (Fl.ow, d)) → σ'[i]? = σ[i]? ∧ env[i]? = some (some (Fl.ow, d))) → Q σ' H) → g v σ H Q
def DG (c : Ct) (X : Cx) (tg : Expr) (p : Dt → Ev → Option Ev) (sl : List Nat) : Prop := ∃ g, PG X tg g ∧ RfG c g p sl
def RfGs (c : Ct) (g : TGs) (p : List Dt → Ev → Option Ev) (sl : List Nat) : Prop := ∀ φ as σ H env vs ds env', Rel c φ as σ H env → RepAll c (hideL H as) vs ds → p ds env = some env' → ∀ Q : L2.St → Hp → Prop,
  (∀ σ', Rel c φ as σ' H env' → (∀ vs, (∀ i ∈ sl, i ∈ vs) → wipe σ' vs = wipe σ vs) → (∀ (i : Nat) (d : Dt), env'[i]? = some (some (Fl.ow, d)) → σ'[i]? = σ[i]? ∧ env[i]? = some (some (Fl.ow, d))) → Q σ' H) → g vs σ H Q
def DGs (c : Ct) (X : Cx) (tgs : List Expr) (p : List Dt → Ev → Option Ev) (sl : List Nat) : Prop := ∃ g, PGs X tgs g ∧ RfGs c g p sl
def pName (i : Nat) : Dt → Ev → Option Ev := fun d env => some (env.set i (some (.sh, d)))
def pNil : List Dt → Ev → Option Ev
  | [], env => some env
  | _, _ => none
def pCons (p : Dt → Ev → Option Ev) (q : List Dt → Ev → Option Ev) : List Dt → Ev → Option Ev
  | d :: ds, env => (p d env).bind fun e => q ds e
  | [], _ => none
def pTup (n : Nat) (q : List Dt → Ev → Option Ev) : Dt → Ev → Option Ev
  | .tup ds, env => if ds.length = n then q ds env else none
  | _, _ => none
section
variable {c : Ct} {X : Cx} {pos : Pos} {e : Expr} {es : List Expr}
theorem dg_name {i : Nat} {x : Str} (hN : X.N.Nodup) (hi : X.N[i]? = some x) (hx : Loc X.env.scope x) (hf : X.fn x = true ∨ X.env.scope.names.lookup x = some .local := by first | exact .inl rfl | exact .inr rfl | assumption) : DG c X (.Name x pos) (pName i) [i] := by
  refine ⟨_, pg_name hN hi hx hf, fun φ as σ H env v d env' R r e Q q => ?_⟩
  unfold pName at e
  cases e
  refine q _ (R.setSh r) (fun vs h => wipe_set (h i (by simp))) fun j d' e => ?_
  rw [List.getElem?_set] at e
  by_cases z : i = j
  · subst z
    rw [if_pos rfl] at e
    split at e <;> cases e
  · rw [if_neg z] at e
    rw [List.getElem?_set, if_neg z]
    exact ⟨rfl, e⟩
theorem dgs_nil : DGs c X [] pNil [] := by
  refine ⟨_, pgs_nil, fun φ as σ H env vs ds env' R r e Q q => ?_⟩
  cases r with
  | nil => cases e; exact ⟨rfl, q σ R (fun _ _ => rfl) fun i d e => ⟨rfl, e⟩⟩
  | cons _ _ => cases e
theorem dgs_cons {p : Dt → Ev → Option Ev} {q : List Dt → Ev → Option Ev} {sl sl' : List Nat} (h1 : DG c X e p sl) (h2 : DGs c X es q sl')
    (hs : (assignEach (e :: es) X.env).map (·.2) = assign e X.env :: (assignEach es X.env).map (·.2) := by rfl) : DGs c X (e :: es) (pCons p q) (sl ++ sl') := by
  obtain ⟨g, pg, rg⟩ := h1
  obtain ⟨g', pg', rg'⟩ := h2
  refine ⟨_, pgs_cons pg pg' hs, fun φ as σ H env vs ds env' R r e Q k => ?_⟩
  cases r with
  | nil => cases e
  | cons a b =>
    rename_i v d vs ds
    have e' : (p d env).bind (fun e => q ds e) = some env' := e
    cases m : p d env with
    | none => rw [m] at e'; cases e'
    | some env1 =>
      rw [m] at e'
      refine ⟨v, vs, rfl, rg φ as σ H env v d env1 R a m _ fun σ1 R1 w1 o1 => rg' φ as σ1 H env1 vs ds env' R1 b e' _ fun σ2 R2 w2 o2 => k σ2 R2 (fun ws h => ?_) fun i d' h => ?_⟩
      · rw [w2 ws fun i hi => h i (List.mem_append_right _ hi), w1 ws fun i hi => h i (List.mem_append_left _ hi)]
      · obtain ⟨z1, z2⟩ := o2 i d' h
        obtain ⟨y1, y2⟩ := o1 i d' z2
        exact ⟨z1.trans y1, y2⟩
theorem dg_tup {k n : Nat} {q : List Dt → Ev → Option Ev} {sl : List Nat} (hc : X.calm = true) (h : DGs c X es q sl) (hK : X.K = c.K := by rfl) (hn : (assignEach es X.env).length = n := by rfl) (hst : (assignEach es X.env).findIdx? (·.1) = none := by rfl) : DG c X (.Tuple es k pos) (pTup n q) sl := by
  obtain ⟨g, pg, rg⟩ := h
  refine ⟨_, pg_tup hc pg hn hst, fun φ as σ H env v d env' R r e Q kk => ?_⟩
  unfold pTup at e
  split at e
  · split at e
    · rename_i hl
      cases r with
      | tup s r => exact ⟨_, _, rfl, by rw [hK]; exact (hideL_le H as).gr.sqT s, by rw [r.length]; exact hl, rg φ as σ H env _ _ env' R r e Q kk⟩
    · cases e
  · cases e
end
def Sx (D : Addr) (H H' : Hp) : Prop := Gr (hideL H [D]) (hideL H' [D])
theorem Sx.refl (D : Addr) (H : Hp) : Sx D H H := Gr.refl _
theorem Sx.trans {D : Addr} {H H1 H2 : Hp} (a : Sx D H H1) (b : Sx D H1 H2) : Sx D H H2 := Gr.trans a b
theorem Sx.gr {D : Addr} {H H' : Hp} {o : HO} (h : H D = some o) (m : MutO o) (g : Gr H H') : Sx D H H' := Gr.hide (fun a ha => by rw [List.mem_singleton.mp ha]; exact ⟨o, h, m⟩) g
theorem hide1_upd {D : Addr} {H : Hp} {o : HO} {as : List Addr} : hideL (upd H D o) (D :: as) = hideL H (D :: as) := by
  funext b
  by_cases e : b ∈ D :: as
  · rw [hideL_in e, hideL_in e]
  · rw [hideL_out e, hideL_out e, upd_ne (fun z => e (by rw [z]; simp))]
theorem Sx.upd {D : Addr} {H H' : Hp} {o : HO} (h : Sx D H H') : Sx D H (L2.upd H' D o) := by
  unfold Sx
  rw [hide1_upd]
  exact h
/-- it grew, but for D, which has o again -/
theorem Sx.back {D : Addr} {H H' : Hp} {o : HO} (h : Sx D H H') (e : H D = some o) : Gr H (L2.upd H' D o) := fun b u q => by
  by_cases z : b = D
  · subst z
    rw [e] at q; cases q
    exact .inl upd_same
  · have q' : hideL H [D] b = some u := by rw [hideL_out (by simp [z])]; exact q
    have le : Le (hideL H' [D]) (L2.upd H' D o) := fun b u q => by
      obtain ⟨h1, h2⟩ := hideL_some q
      rw [upd_ne (fun z => h1 (by rw [z]; simp))]
      exact h2
    rcases h b u q' with y | ⟨ps, ps', z1, y, t, w⟩
    · exact .inl (le b u y)
    · exact .inr ⟨ps, ps', z1, le b _ y, t, fun pos cv x => (w pos cv x).imp _root_.id (goodAt_gr le.gr)⟩
theorem Sx.new {D : Addr} {H H' : Hp} (n : H D = none) (h : Sx D H H') : Gr H H' := fun b u q => by
  have z : b ≠ D := ne_of_none q n
  have q' : hideL H [D] b = some u := by rw [hideL_out (by simp [z])]; exact q
  rcases h b u q' with y | ⟨ps, ps', z1, y, t, w⟩
  · exact .inl (hideL_le _ _ b u y)
  · exact .inr ⟨ps, ps', z1, hideL_le _ _ b _ y, t, fun pos cv x => (w pos cv x).imp _root_.id (goodAt_gr (hideL_le _ _).gr)⟩
/-- D is no slot's own -/
def ND (D : Addr) (σ : L2.St) (env : Ev) : Prop := ∀ (i : Nat) (d : Dt), env[i]? = some (some (Fl.ow, d)) → σ[i]? ≠ some (some (.ref D))
section
variable {c : Ct} {φ : Fx} {as : List Addr} {σ : L2.St} {H H' : Hp} {env : Ev} {D : Addr} {o : HO}
theorem Rel.put (R : Rel c φ (D :: as) σ H env) (bn : D ∈ φ.no) (nd : ND D σ env) (n0 : D ∉ φ.as0) (m : MutO o) : Rel c φ (D :: as) σ (upd H D o) env where
  len := R.len
  hid := fun a ha => by
    by_cases z : a = D
    · subst z; exact ⟨o, upd_same, m⟩
    · rw [upd_ne z]; exact R.hid a ha
  sub := R.sub
  base := by rw [hide1_upd]; exact R.base
  tabs := by rw [hide1_upd]; exact R.tabs
  keep := fun a ha hn hm => by rw [upd_ne (fun z => n0 (by rw [← z]; exact ha))]; exact R.keep a ha hn hm
  slot := fun i fl d e => by
    obtain ⟨v, e1, h⟩ := R.slot i fl d e
    refine ⟨v, e1, ?_⟩
    cases fl with
    | sh => show Rep c _ v d; rw [hide1_upd]; exact h
    | ow =>
      obtain ⟨a, o', rfl, h2, h3, h4, h5⟩ := h
      refine ⟨a, o', rfl, h2, h3, ?_, by rw [hide1_upd]; exact h5⟩
      rw [upd_ne (fun z => nd i d e (by rw [e1, z]))]
      exact h4
    | io =>
      obtain ⟨a, o', rfl, h2, h3, h4, h5⟩ := h
      refine ⟨a, o', rfl, h2, h3, ?_, by rw [hide1_upd]; exact h5⟩
      rw [upd_ne (fun z => n0 (by rw [← z]; exact h3))]
      exact h4
    | ml => trivial
    | mr =>
      obtain ⟨b, e2, m2⟩ := h
      exact ⟨b, e2, by rw [hide1_upd]; exact m2⟩
  dj := R.dj
  ioN := R.ioN
  ioM := R.ioM
  mls := R.mls.move (fun i d e => ⟨e, rfl⟩) (fun i d e => .inl ⟨d, e, rfl⟩) (fun x hx _ hno _ => ⟨hx, upd_ne fun z => hno (by rw [z]; exact bn)⟩) (by rw [hide1_upd]; exact .refl _) (fun _ h => some_upd h)
theorem Rel.sx (R : Rel c φ (D :: as) σ H env) (bn : D ∈ φ.no) (nd : ND D σ env) (n0 : D ∉ φ.as0) (s : Sx D H H') (e : H' D = some o) (m : MutO o) : Rel c φ (D :: as) σ H' env := by
  obtain ⟨o1, e1, m1⟩ := R.hid D (by simp)
  have R1 := (R.gr (s.back e1)).put bn nd n0 m
  rw [upd_upd] at R1
  have z : upd H' D o = H' := by
    funext b
    by_cases y : b = D
    · subst y; rw [upd_same, e]
    · rw [upd_ne y]
  rw [z] at R1
  exact R1
/-- one more hidden, a new one -/
theorem Rel.more (R : Rel c φ as σ H env) (n : H D = none) (m : MutO o) : Rel c (φ.ban D) (D :: as) σ (upd H D o) env where
  len := R.len
  hid := fun a ha => by
    rcases List.mem_cons.mp ha with rfl | ha
    · exact ⟨o, upd_same, m⟩
    · obtain ⟨o', e, m'⟩ := R.hid a ha
      exact ⟨o', by rw [upd_ne (ne_of_none e n)]; exact e, m'⟩
  sub := fun a ha => .tail _ (R.sub a ha)
  base := R.base.trans (le_new n).gr
  tabs := R.tabs.gr (le_new n).gr
  keep := fun a ha hn hm => by
    obtain ⟨o', e, _⟩ := R.hid a (R.sub a ha)
    rw [upd_ne (ne_of_none e n)]
    exact R.keep a ha hn hm
  slot := fun i fl d e => by
    obtain ⟨v, e1, h⟩ := R.slot i fl d e
    refine ⟨v, e1, ?_⟩
    cases fl with
    | sh => exact Rep.gr (le_new n).gr h
    | ow =>
      obtain ⟨a, o', rfl, h2, h3, h4, h5⟩ := h
      exact ⟨a, o', rfl, .tail _ h2, h3, by rw [upd_ne (ne_of_none h4 n)]; exact h4, h5.gr (le_new n).gr⟩
    | io =>
      obtain ⟨a, o', rfl, h2, h3, h4, h5⟩ := h
      exact ⟨a, o', rfl, h2, h3, by rw [upd_ne (ne_of_none h4 n)]; exact h4, h5.gr (le_new n).gr⟩
    | ml => trivial
    | mr =>
      obtain ⟨b, e2, m2⟩ := h
      exact ⟨b, e2, m2.gr (le_new n).gr⟩
  dj := R.dj
  ioN := R.ioN
  ioM := R.ioM
  mls := by
    obtain ⟨fq, k1, k2, k3, k4, k5⟩ := R.mls
    refine ⟨fq, fun i d e => ?_, k2, k3, fun x hx => ?_, k5⟩
    rotate_left
    · rcases List.mem_cons.mp hx with rfl | hx
      · rw [upd_same]; exact fun z => by cases z
      · exact some_upd (k4 x hx)
    obtain ⟨a, s, mi, fo⟩ := k1 i d e
    refine ⟨a, s, mi.move (fun x hx => ?_) (le_new n).gr, fun x hx => ⟨.tail _ (fo x hx).1, (fo x hx).2.1, fun z => ?_⟩⟩
    · obtain ⟨o', e', _⟩ := R.hid x (fo x hx).1
      rw [upd_ne (ne_of_none e' n)]
    · rcases List.mem_cons.mp z with rfl | z
      · obtain ⟨o', e', _⟩ := R.hid x (fo x hx).1
        rw [n] at e'; cases e'
      · exact (fo x hx).2.2 z
theorem Rel.nd (R : Rel c φ as σ H env) (n : H D = none) : ND D σ env := fun i d e z => by
  obtain ⟨v, e1, a, o, rfl, _, _, h4, _⟩ := R.slot i _ d e
  rw [e1] at z; cases z
  rw [n] at h4; cases h4
theorem Rel.n0 (R : Rel c φ as σ H env) (n : H D = none) : D ∉ φ.as0 := fun z => by
  obtain ⟨o, e, _⟩ := R.hid D (R.sub D z)
  rw [n] at e; cases e
end
structure Cl where
  fi : Ev → Mo Wv
  p : Dt → Ev → Option Ev
  tt : Ev → Mo Bool
  vs : List Nat
def cStep {α : Type} (body : Ev → α → Mo α) (cl : Cl) (env : Ev) (d : Dt) (acc : α) : Mo α := (Mo.of (cl.p d (wipeE env cl.vs))).bind fun e1 => (cl.tt e1).bind fun b => if b = true then body e1 acc else .ok acc
def cFold {α : Type} (body : Ev → α → Mo α) (cl : Cl) (env : Ev) : List Dt → α → Mo α
  | [], acc => .ok acc
  | d :: ds, acc => (cStep body cl env d acc).bind fun acc' => cFold body cl env ds acc'
def bYes : Ev → Mo Bool := fun _ => .ok true
/-- what is being made: how it lies, as data -/
structure AccOk {α : Type} (P : Hp → HO → α → Prop) : Prop where
  mo : ∀ {H : Hp} {o : HO} {x : α}, P H o x → MutO o
  gr : ∀ {H H' : Hp} {o : HO} {x : α}, Gr H H' → P H o x → P H' o x
/-- amid a comprehension that makes what is at D -/
structure CI {α : Type} (c : Ct) (P : Hp → HO → α → Prop) (φ : Fx) (as : List Addr) (D : Addr) (H0 : Hp) (σ : L2.St) (env : Ev) (acc : α) (H : Hp) : Prop where
  R : Rel c (φ.ban D) (D :: as) σ H env
  nd : ND D σ env
  n0 : D ∉ φ.as0
  nas : D ∉ as
  sx : Sx D H0 H
  at' : ∃ o, H D = some o ∧ P (hideL H (D :: as)) o acc
section
variable {α : Type} {c : Ct} {P : Hp → HO → α → Prop} (A : AccOk P) {φ : Fx} {as : List Addr} {D : Addr} {H0 H H' : Hp} {σ σ' : L2.St} {env env' : Ev} {acc acc' : α}
include A
theorem CI.gr (h : CI c P φ as D H0 σ env acc H) (g : Gr H H') : CI c P φ as D H0 σ env acc H' := by
  obtain ⟨o, e, r⟩ := h.at'
  exact ⟨h.R.gr g, h.nd, h.n0, h.nas, h.sx.trans (.gr e (A.mo r) g), o, g.keep e (A.mo r).noTbl, A.gr (g.hide h.R.hid) r⟩
theorem CI.put (h : CI c P φ as D H0 σ env acc H) {o : HO} (r : P (hideL H (D :: as)) o acc') : CI c P φ as D H0 σ env acc' (upd H D o) :=
  ⟨h.R.put (.head _) h.nd h.n0 (A.mo r), h.nd, h.n0, h.nas, h.sx.upd, _, upd_same, by rw [hide1_upd]; exact r⟩
omit A in
theorem CI.base (h : CI c P φ as D H0 σ env acc H) : CI c P φ as D H σ env acc H := ⟨h.R, h.nd, h.n0, h.nas, .refl _ _, h.at'⟩
end
theorem Mo.if_ok {α : Type} {P : Prop} [Decidable P] {m : Mo α} {y : α} (h : (if P then m else .no) = Mo.ok y) : P ∧ m = .ok y := by
  by_cases p : P
  · rw [if_pos p] at h; exact ⟨p, h⟩
  · rw [if_neg p] at h; cases h
/-- the state ahead of the i-th -/
theorem cFold_at {α : Type} {body : Ev → α → Mo α} {cl : Cl} {env : Ev} {i : Nat} : ∀ {ds : List Dt} {acc r : α} {d : Dt}, cFold body cl env ds acc = .ok r → ds[i]? = some d → ∃ a b, cFold body cl env (ds.take i) acc = .ok a ∧ cStep body cl env d a = .ok b ∧ cFold body cl env (ds.take (i + 1)) acc = .ok b := by
  induction i with
  | zero =>
    intro ds acc r d h e
    cases ds with
    | nil => simp at e
    | cons x t =>
      simp at e; subst e
      simp only [cFold] at h
      obtain ⟨b, h1, _⟩ := Mo.bind_eq_ok h
      exact ⟨acc, b, by simp [cFold], h1, by simp [cFold, h1]⟩
  | succ i ih =>
    intro ds acc r d h e
    cases ds with
    | nil => simp at e
    | cons x t =>
      simp only [cFold] at h
      obtain ⟨b, h1, h2⟩ := Mo.bind_eq_ok h
      obtain ⟨a', b', h3, h4, h5⟩ := ih h2 (by simpa using e)
      exact ⟨a', b', by simp [cFold, h1, h3], h4, by rw [List.take_succ_cons]; simp only [cFold, h1, Mo.bind_ok]; exact h5⟩
def Mo.noex {α : Type} : Mo α → Mo α
  | .ok a => .ok a
  | _ => .no
theorem Mo.noex_ok {α : Type} {m : Mo α} {a : α} (h : m.noex = .ok a) : m = .ok a := by
  cases m <;> first | exact h | cases h
@[simp] theorem Mo.noex_of_ok {α : Type} (a : α) : (Mo.ok a).noex = .ok a := rfl
def emL (f : Ev → Mo Rv) : Ev → List Dt → Mo (List Dt) := fun env acc => (f env).bind fun rv => if keepK rv = true ∧ acc.length < 1000000 then .ok (acc ++ [rv.2]) else .no
end Pm
set_option maxHeartbeats 4000000
namespace Pm
open PySem PySem.Spec PyProof.Rows L2 GxR GX
variable [LamTab]
def tOf {α β : Type} (c : Ct) (E : XK) (S : List Addr → Hp → α → Hp → β → Prop) (f : Ev → Mo β) : L2.St → Hp → (α → Hp → Prop) → Prop := fun σ H Q => ∃ φ as env, Rel c φ as σ H env ∧
  ((∃ b, f env = .ok b ∧ ∀ a H', Gr H H' → S as H a H' b → Q a H') ∨ ∃ k n, f env = .ex k n ∧ ∀ H' u d, Gr H H' → ExR c H' u d k n → E u d H')
section
variable {c : Ct} {X : Cx} {E : XK} {a e tg it : Expr} {f : Ev → Mo Rv}
abbrev tE (c : Ct) (E : XK) (f : Ev → Mo Rv) : TE := tOf c E (fun as H v H' rv => RvR c as H H' v rv) f
abbrev tT (c : Ct) (E : XK) (f : Ev → Mo Bool) : TT := tOf c E (fun _ _ b _ k => b = k) f
abbrev tI (c : Ct) (E : XK) (f : Ev → Mo Wv) : TI := tOf c E (fun as _ J H' w => WkK c as J H' w) f
theorem tr_of {α β : Type} {S : List Addr → Hp → α → Hp → β → Prop} {f : Ev → Mo β} : ∀ φ as σ H env, Rel c φ as σ H env → Tr c E H (fun a H' b => S as H a H' b) (tOf c E S f σ H) (f env) := fun φ as σ H env R =>
  ⟨fun b e Q q => ⟨φ, as, env, R, .inl ⟨b, e, q⟩⟩, fun k n e q Q => ⟨φ, as, env, R, .inr ⟨k, n, e, q⟩⟩⟩
theorem DE.pe (h : DE c X E e f) : PE X e (tE c E f) := by
  obtain ⟨t, p, r⟩ := h
  refine ⟨fun pins s σ H Q I q => p.run pins s σ H Q I ?_⟩
  obtain ⟨φ, as, env, R, q⟩ := q
  rcases q with ⟨b, e1, q⟩ | ⟨k, n, e1, q⟩
  · exact (r φ as σ H env R).ok b e1 Q q
  · exact (r φ as σ H env R).ex k n e1 q Q
theorem DT.pt {f : Ev → Mo Bool} (h : DT c X E e f) : PT X e (tT c E f) := by
  obtain ⟨t, p, r⟩ := h
  refine ⟨fun pins s σ H Q I q => p.run pins s σ H Q I ?_⟩
  obtain ⟨φ, as, env, R, q⟩ := q
  rcases q with ⟨b, e1, q⟩ | ⟨k, n, e1, q⟩
  · exact (r φ as σ H env R).ok b e1 Q q
  · exact (r φ as σ H env R).ex k n e1 q Q
theorem DI.pi {f : Ev → Mo Wv} (h : DI c X E tg it f) : PI X tg it (tI c E f) := by
  obtain ⟨t, p, r⟩ := h
  refine ⟨fun pins s σ H Q I q => p.run pins s σ H Q I ?_⟩
  obtain ⟨φ, as, env, R, q⟩ := q
  rcases q with ⟨b, e1, q⟩ | ⟨k, n, e1, q⟩
  · exact (r φ as σ H env R).ok b e1 Q q
  · exact (r φ as σ H env R).ex k n e1 q Q
def DTs (c : Ct) (X : Cx) (ifs : List Expr) (f : Ev → Mo Bool) : Prop := ∃ t, PTs X ifs t ∧ RfT c NoE t f
theorem dts_nil : DTs c X [] bYes := ⟨_, pts_nil, fun φ as σ H env R => .pure (R := fun b _ k => b = k) rfl⟩
theorem DTs.pts {ifs : List Expr} {f : Ev → Mo Bool} (h : DTs c X ifs f) : PTs X ifs (tT c NoE f) := by
  obtain ⟨t, p, r⟩ := h
  refine ⟨fun pins s σ H Q I q => p.run pins s σ H Q I ?_⟩
  obtain ⟨φ, as, env, R, q⟩ := q
  rcases q with ⟨b, e1, q⟩ | ⟨k, n, e1, q⟩
  · exact (r φ as σ H env R).ok b e1 Q q
  · exact (r φ as σ H env R).ex k n e1 q Q
def gOf (c : Ct) (p : Dt → Ev → Option Ev) (sl : List Nat) : TG := fun v σ H Q => ∃ φ as env d env', Rel c φ as σ H env ∧ Rep c (hideL H as) v d ∧ p d env = some env' ∧
  ∀ σ', Rel c φ as σ' H env' → (∀ vs, (∀ i ∈ sl, i ∈ vs) → wipe σ' vs = wipe σ vs) → (∀ (i : Nat) (d : Dt), env'[i]? = some (some (Fl.ow, d)) → σ'[i]? = σ[i]? ∧ env[i]? = some (some (Fl.ow, d))) → Q σ' H
theorem rg_of {p : Dt → Ev → Option Ev} {sl : List Nat} : RfG c (gOf c p sl) p sl := fun φ as σ H env v d env' R r e Q q => ⟨φ, as, env, d, env', R, r, e, q⟩
theorem DG.pg {p : Dt → Ev → Option Ev} {sl : List Nat} (h : DG c X tg p sl) : PG X tg (gOf c p sl) := by
  obtain ⟨g, pg, rg⟩ := h
  refine ⟨fun pins s σ H v u Q I r q => pg.run pins s σ H v u Q I r ?_⟩
  obtain ⟨φ, as, env, d, env', R, rr, e, q⟩ := q
  exact rg φ as σ H env v d env' R rr e Q q
theorem DG.mono {p : Dt → Ev → Option Ev} {sl sl' : List Nat} (h : DG c X tg p sl) (hs : ∀ i ∈ sl, i ∈ sl') : DG c X tg p sl' := by
  obtain ⟨g, pg, rg⟩ := h
  exact ⟨g, pg, fun φ as σ H env v d env' R r e Q q => rg φ as σ H env v d env' R r e Q fun σ' R' w o => q σ' R' (fun vs h => w vs fun i hi => h i (hs i hi)) o⟩
theorem rfi_of {f : Ev → Mo Wv} : RfI c E (tI c E f) f := fun φ as σ H env R => tr_of (S := fun as _ J H' w => WkK c as J H' w) φ as σ H env R
theorem rfe_of {f : Ev → Mo Rv} : RfE c E (tE c E f) f := fun φ as σ H env R => tr_of (S := fun as H v H' rv => RvR c as H H' v rv) φ as σ H env R
variable {elt kx vx : Expr} {g0 : Comprehension} {gs : List Comprehension} {scope : Scope} {own : List (Str × Nat)} {pos : Pos} {cl : Cl} {cls : List Cl} {sl : List Nat} {g : Ev → Mo Rv}
end
end Pm
set_option maxHeartbeats 4000000
namespace Pm
open PySem PySem.Spec PyProof.Rows L2 GxR GX
variable [LamTab]
/-- .. where a code object is known -/
def RfEg (c : Ct) (E : XK) (cv : Value) (t : TE) (f : Ev → Mo Rv) : Prop := ∀ φ as σ H env, GoodC (hideL H as) cv → Rel c φ as σ H env → Tr c E H (fun v H' rv => RvR c as H H' v rv) (t σ H) (f env)
def DEg (c : Ct) (X : Cx) (E : XK) (cv : Value) (e : Expr) (f : Ev → Mo Rv) : Prop := ∃ t, PE X e t ∧ RfEg c E cv t f
section
variable {c : Ct} {X : Cx} {E : XK} {cv : Value} {a e tg it : Expr} {f : Ev → Mo Rv} {pos : Pos} {es : List Expr} {fs : Ev → Mo (List Rv)}
theorem DE.g (h : DE c X E e f) : DEg c X E cv e f := let ⟨t, p, r⟩ := h; ⟨t, p, fun φ as σ H env _ R => r φ as σ H env R⟩
def tEg (c : Ct) (E : XK) (cv : Value) (f : Ev → Mo Rv) : TE := fun σ H Q => ∃ φ as env, GoodC (hideL H as) cv ∧ Rel c φ as σ H env ∧
  ((∃ b, f env = .ok b ∧ ∀ v H', Gr H H' → RvR c as H H' v b → Q v H') ∨ ∃ k n, f env = .ex k n ∧ ∀ H' u d, Gr H H' → ExR c H' u d k n → E u d H')
theorem DEg.pe (h : DEg c X E cv e f) : PE X e (tEg c E cv f) := by
  obtain ⟨t, p, r⟩ := h
  refine ⟨fun pins s σ H Q I q => p.run pins s σ H Q I ?_⟩
  obtain ⟨φ, as, env, gc, R, q⟩ := q
  rcases q with ⟨b, e1, q⟩ | ⟨k, n, e1, q⟩
  · exact (r φ as σ H env gc R).ok b e1 Q q
  · exact (r φ as σ H env gc R).ex k n e1 q Q
theorem rfg_of : RfEg c E cv (tEg c E cv f) f := fun φ as σ H env gc R => ⟨fun b e Q q => ⟨φ, as, env, gc, R, .inl ⟨b, e, q⟩⟩, fun k n e q Q => ⟨φ, as, env, gc, R, .inr ⟨k, n, e, q⟩⟩⟩
end
theorem col_run {c : Ct} {cv : Value} {g : TG} {tt : TT} {te : TE} {cl : Cl} {f : Ev → Mo Rv} (hg : RfG c g cl.p cl.vs) (ht : RfT c NoE tt cl.tt) (he : RfEg c NoE cv te f)
    {φ : Fx} {as : List Addr} {σ : L2.St} {env : Ev} {H2 : Hp} {J : It} {ds res : List Dt} {QE : List V → Hp → Prop} (R : Rel c φ as σ H2 env) (gc : GoodC (hideL H2 as) cv) (wk : ∀ H, Gr H2 H → WkAt c J ds as H) (e : cFold (emL f) cl env ds [] = .ok res)
    (hq : ∀ ys H', Gr H2 H' → RepAll c (hideL H' as) ys res → QE ys H') : ColLoop g tt te cl.vs σ QE J H2 := by
  refine ⟨fun i m ys H => m = ds.length - i ∧ i ≤ ds.length ∧ ∃ a, cFold (emL f) cl env (ds.take i) [] = .ok a ∧ Gr H2 H ∧ RepAll c (hideL H as) ys a, ⟨ds.length, by simp, Nat.zero_le _, [], by simp [cFold], .refl _, .nil⟩, ?_⟩
  rintro i m ys H ⟨rfl, hi, a, ep, gH, ra⟩
  have w := wk H gH
  have RH := R.gr gH
  by_cases hlt : i < ds.length
  · refine .inr ⟨w.go i hlt, fun ys' H' => ∃ a, cFold (emL f) cl env (ds.take (i + 1)) [] = .ok a ∧ Gr H2 H' ∧ RepAll c (hideL H' as) ys' a, fun ys' H' p' => ⟨_, ?_, rfl, hlt, p'⟩, fun x H3 y => ?_⟩
    · omega
    · have ed := List.getElem?_eq_getElem hlt
      generalize hdd : ds[i] = d at ed
      obtain ⟨g3, rx⟩ := w.yld i d x H3 ed y
      obtain ⟨a1, b1, ep1, es, ep'⟩ := cFold_at e ed
      rw [ep] at ep1
      cases ep1
      unfold cStep at es
      obtain ⟨env1, e1, e2⟩ := Mo.bind_eq_ok es
      obtain ⟨b, e3, e4⟩ := Mo.bind_eq_ok e2
      have R3 := RH.gr g3
      have ra3 := ra.gr (g3.hide RH.hid)
      refine hg φ as _ H3 _ x d env1 (R3.wipe cl.vs) rx (Mo.of_eq_ok e1) _ fun σ1 R1 w1 o1 => ⟨by rw [w1 cl.vs fun i hi => hi, wipe_twice], (ht φ as σ1 H3 env1 R1).ok b e3 _ fun b' H4 g4 eb => ?_⟩
      subst eb
      have R4 := R1.gr g4
      have ra4 := ra3.gr (g4.hide R1.hid)
      have gA := (gH.trans g3).trans g4
      cases b' with
      | true =>
        rw [if_pos rfl] at e4 ⊢
        unfold emL at e4
        obtain ⟨rv, e5, e6⟩ := Mo.bind_eq_ok e4
        obtain ⟨h7, e8⟩ := Mo.if_ok e6
        cases e8
        refine (he φ as σ1 H4 env1 (goodC_gr (gA.hide R.hid) gc) R4).ok rv e5 _ fun v H5 g5 r5 => ⟨small6' (by rw [ra.length]; exact h7.2), _, ep', gA.trans g5, ?_⟩
        exact (ra4.gr (g5.hide R4.hid)).snoc (r5.keep R4.hid g5 h7.1)
      | false =>
        rw [if_neg (by simp)] at e4 ⊢
        cases e4
        exact ⟨_, ep', gA, ra4⟩
  · have ei : i = ds.length := by omega
    subst ei
    rw [List.take_of_length_le (Nat.le_refl _)] at ep
    rw [e] at ep
    cases ep
    exact .inl ⟨w.stop, hq ys H gH ra⟩
theorem mem_tabs {c : Ct} {φ : Fx} {as : List Addr} {σ : L2.St} {H : Hp} {env : Ev} (R : Rel c φ as σ H env) {P : Addr} (h : P ∈ c.ts) : TabN H P := R.tabsF P h
theorem WkE.at {c : Ct} {as : List Addr} {J : It} {H1 : Hp} {ds : List Dt} (h : WkE c as J H1 ds) (hd : Hid as H1) : ∀ H, Gr H1 H → WkAt c J ds as H := fun H g => h as H (hd.gr g) (fun a ha => by
  obtain ⟨o, e, m⟩ := hd a ha
  rw [e]; exact g.keep e m.noTbl) (g.hide hd)
def aFold (b0 : Bool) (f : Ev → Mo Rv) (cl : Cl) (env : Ev) : List Dt → Mo Bool
  | [] => .ok (!b0)
  | d :: ds => (Mo.of (cl.p d (wipeE env cl.vs))).bind fun e1 => (cl.tt e1).bind fun b => if b = true then (f e1).bind fun x => match x.2 with
      | .bl k => if k = b0 then .ok b0 else aFold b0 f cl env ds
      | _ => .no
    else aFold b0 f cl env ds
theorem all_run {c : Ct} {b0 : Bool} {g : TG} {tt : TT} {te : TE} {cl : Cl} {f : Ev → Mo Rv} (hg : RfG c g cl.p cl.vs) (ht : RfT c NoE tt cl.tt) (he : RfE c NoE te f)
    {φ : Fx} {as : List Addr} {σ : L2.St} {env : Ev} {H2 : Hp} {J : It} {ds : List Dt} {res : Bool} {Q : VK} (R : Rel c φ as σ H2 env) (wk : ∀ H, Gr H2 H → WkAt c J ds as H) (e : aFold b0 f cl env ds = .ok res)
    (hq : ∀ H', Gr H2 H' → Q (.bl res) H') : AllLoop b0 g tt te cl.vs σ Q J H2 := by
  refine ⟨fun i m H => m = ds.length - i ∧ i ≤ ds.length ∧ aFold b0 f cl env (ds.drop i) = .ok res ∧ Gr H2 H, ⟨ds.length, by simp, Nat.zero_le _, by simpa using e, .refl _⟩, ?_⟩
  rintro i m H ⟨rfl, hi, ep, gH⟩
  have w := wk H gH
  have RH := R.gr gH
  by_cases hlt : i < ds.length
  · refine .inr ⟨w.go i hlt, fun H' => aFold b0 f cl env (ds.drop (i + 1)) = .ok res ∧ Gr H2 H', fun H' p' => ⟨_, ?_, rfl, hlt, p'⟩, fun x H3 y => ?_⟩
    · omega
    · have ed := List.getElem?_eq_getElem hlt
      rw [List.drop_eq_getElem_cons hlt] at ep
      generalize hdd : ds[i] = d at ed ep
      obtain ⟨g3, rx⟩ := w.yld i d x H3 ed y
      simp only [aFold] at ep
      obtain ⟨env1, e1, e2⟩ := Mo.bind_eq_ok ep
      obtain ⟨b, e3, e4⟩ := Mo.bind_eq_ok e2
      have R3 := RH.gr g3
      refine hg φ as _ H3 _ x d env1 (R3.wipe cl.vs) rx (Mo.of_eq_ok e1) _ fun σ1 R1 w1 o1 => ⟨by rw [w1 cl.vs fun i hi => hi, wipe_twice], (ht φ as σ1 H3 env1 R1).ok b e3 _ fun b' H4 g4 eb => ?_⟩
      subst eb
      have R4 := R1.gr g4
      have gA := (gH.trans g3).trans g4
      cases b' with
      | true =>
        rw [if_pos rfl] at e4 ⊢
        obtain ⟨rv, e5, e6⟩ := Mo.bind_eq_ok e4
        refine (he φ as σ1 H4 env1 R4).ok rv e5 _ fun v H5 g5 r5 => ?_
        obtain ⟨k, dd⟩ := rv
        dsimp only at e6
        split at e6
        · rename_i kk
          refine ⟨kk, repC_bl (r5.rc R4.hid), ?_⟩
          by_cases z : kk = b0
          · rw [if_pos z] at e6 ⊢
            cases e6
            exact hq _ (gA.trans g5)
          · rw [if_neg z] at e6 ⊢
            exact ⟨e6, gA.trans g5⟩
        · cases e6
      | false =>
        rw [if_neg (by simp)] at e4 ⊢
        exact ⟨e4, gA⟩
  · have ei : i = ds.length := by omega
    subst ei
    rw [List.drop_of_length_le (Nat.le_refl _)] at ep
    simp only [aFold] at ep
    cases ep
    exact .inl ⟨w.stop, hq H gH⟩
def eAllG (b0 : Bool) (f : Ev → Mo Rv) (cl : Cl) : Ev → Mo Rv := fun env => (cl.fi env).bind fun w => (aFold b0 f cl env w.2).noex.bind fun b => .ok (.sh, .bl b)
theorem rf_allG {c : Ct} {E : XK} {b0 : Bool} {P : Addr} {wi : L2.TI} {g : TG} {tt : TT} {te : TE} {cl : Cl} {f : Ev → Mo Rv} (hP : P ∈ c.ts) (hi : RfI c E wi cl.fi) (hg : RfG c g cl.p cl.vs) (ht : RfT c NoE tt cl.tt) (he : RfE c NoE te f) :
    RfE c E (tAllG b0 P wi g tt te cl.vs) (eAllG b0 f cl) := fun φ as σ H env R => (hi φ as σ H env R).bind fun J H1 w hw g1 wk => by
  have R1 := R.gr g1
  refine ⟨fun rv e Q q => ⟨mem_tabs R1 hP, fun H2 tb => ?_⟩, fun k n e => ?_⟩
  · obtain ⟨b, e1, e2⟩ := Mo.bind_eq_ok e
    cases e2
    have g2 : Gr H1 H2 := .tabbedG tb
    exact all_run hg ht he (R1.gr g2) (fun H3 g3 => wk.1.at R1.hid H3 (g2.trans g3)) (Mo.noex_ok e1) fun H3 g3 => q _ H3 (g2.trans g3) (.bl _)
  · rcases Mo.bind_eq_ex e with e1 | ⟨ds, e1, e2⟩
    · cases q : aFold b0 f cl env w.2 <;> rw [q] at e1 <;> cases e1
    · cases e2
abbrev GnP (X : Cx) (B : Around) (scope : Scope) (p : Value → Cx → Prop) : Prop := ∀ (s : Shared) (H : Hp) (C : Addr) (cl : List (Str × Addr)) (code : Value) (bi : Addr) (fp : List Addr) (pn : List (Addr × Obj)), p code (gblkB X B s H (genEnv scope cl C code bi X.env) fp pn)
structure DGn (c : Ct) (X : Cx) (B : Around) (scope : Scope) (tg : Expr) (ifs : List Expr) (cl : Cl) (sl : List Nat) : Prop where
  pg : GnP X B scope fun _ Y => DG c Y tg cl.p sl
  pt : GnP X B scope fun _ Y => DTs c Y ifs cl.tt
  sl : ∀ i ∈ sl, i ∈ cl.vs
section
variable {c : Ct} {X : Cx} {E : XK} {cv : Value} {elt tg iter : Expr} {ifs : List Expr} {f : Ev → Mo Rv} {p pos gpos : Pos} {scope : Scope} {own : List (Str × Nat)} {cl : Cl} {sl : List Nat} {cd P : Addr} {k : Nat}
theorem rft_of {f : Ev → Mo Bool} : RfT c E (tT c E f) f := fun φ as σ H env R => tr_of (S := fun _ _ b _ k => b = k) φ as σ H env R
theorem de_allG (hc : X.calm = true) (hN : X.N.Nodup) (hr : Room k X.A) (hm : c.mg "all" = none) (TB : TabB c.base c.mg cd P) (hP : P ∈ c.ts) (hcode : X.env.code = .ref cd) (ok : GOk X.N X.env.scope scope own) (hvs : cl.vs = own.map (·.2)) (hi : DI c X E tg iter cl.fi)
    (h1 : DGn c X X.A.in1.in1 scope tg ifs cl sl) (he : GnP X X.A.in1.in1 scope fun code Y => DE c Y NoE elt f) (hmg : X.mg = c.mg := by rfl) (hb : X.base = c.base := by rfl) (hgl : Gl X "all" := by rfl) (hs : ∀ v, genFold iter X.env v = pure v := by intro _; rfl)
    (hst : starEach [.GeneratorExp elt [⟨tg, iter, ifs, 0⟩] scope gpos] X.env = (false, eval (.GeneratorExp elt [⟨tg, iter, ifs, 0⟩] scope gpos) X.env) :: starEach [] X.env := by rfl) :
    DE c X E (.Call (.Name "all" p) [.GeneratorExp elt [⟨tg, iter, ifs, 0⟩] scope gpos] [] pos) (eAllG false f cl) := by
  refine ⟨_, pe_allG (g := gOf c cl.p cl.vs) (tt := tT c NoE cl.tt) (te := tE c NoE f) (wi := tI c E cl.fi) hc hN hr hgl (by rw [hmg]; exact hm) (by rw [hmg, hb]; exact TB) hcode ok hi.pi (fun s H C k code bi fp pn => ((h1.pg s H C k code bi fp pn).mono h1.sl).pg) (fun s H C k code bi fp pn => (h1.pt s H C k code bi fp pn).pts) (fun s H C k code bi fp pn => (he s H C k code bi fp pn).pe) hs hst, ?_⟩
  have e : own.map Prod.snd = cl.vs := hvs.symm
  rw [e]
  exact rf_allG hP rfi_of rg_of rft_of rfe_of
end
end Pm
set_option maxHeartbeats 4000000
namespace Pm
open PySem PySem.Spec PyProof.Rows L2 GxR GX
variable [LamTab]
def pureIn : Rv → Bool
  | (.sh, d) => d.pure
  | (.nw, .lst ds) => pureAll ds
  | (.nw, .dic _ ds) => pureAll ds
  | (.nw, .dit _ ds) => pureAll ds
  | _ => false
/-- the def of this name keeps its promise; errors may leave it -/
def OkX (c : Ct) (x : Str) (k : Nat) (ps : List Str) (sp : Sp) : Prop := ∃ f fd, FnOk c.P c.w c.K c.mg c.base (CX c.P c.w) k f fd ps sp ∧ c.mg x = some (.ref f) ∧ PySem.W.keepIn c.K (.ref f) = true ∧ Binds c.K fd ps []
def spF (c : Ct) (n : Nat) (F : List Dt → Mo Rv) : Sp := fun vs H Q E => ∃ as ds, vs.length = n ∧ Hid as H ∧ RepAll c (hideL H as) vs ds ∧ Tabs c.ts H ∧
  ((∃ rv, F ds = .ok rv ∧ ∀ v H', Gr H H' → RvR c as H H' v rv → Q v H') ∨ ∃ k n, F ds = .ex k n ∧ ∀ H' u d, Gr H H' → ExR c H' u d k n → E u d H')
def FD (c : Ct) (x : Str) (k : Nat) (ps : List Str) (F : List Dt → Mo Rv) : Prop := OkX c x k ps (spF c ps.length F)
theorem FD.mono {c : Ct} {x : Str} {j k : Nat} {ps : List Str} {F : List Dt → Mo Rv} (h : FD c x j ps F) (hk : j ≤ k) : FD c x k ps F := let ⟨f, fd, F, r⟩ := h; ⟨f, fd, F.mono hk, r⟩
/-- what errors of a callee may pass here -/
abbrev Px (c : Ct) (X : Cx) (E : XK) : Prop := Passes (CX c.P c.w) X E
theorem px_no {c : Ct} {X : Cx} : Px c X NoE := fun _ _ _ _ _ _ _ h => by
  obtain ⟨_, _, _, _, _, _, _, _, _, _, _, _, z⟩ := h
  exact z.elim
section
variable {c : Ct} {as : List Addr} {H0 H H' : Hp}
theorem RvR.pureIn {as1 : List Addr} {v : V} {rv : Rv} (hd : Hid as H0) (g : Gr H0 H) (p : pureIn rv = true) (h : RvR c as1 H0 H v rv) : RvR c as H0 H v rv := by
  obtain ⟨k, d⟩ := rv
  cases k with
  | sh => exact Rep.purely (hd.gr g) p (Rep.gr (hideL_le H as1).gr h)
  | nw =>
    obtain ⟨q, o, rfl, n, e, con⟩ := h
    have hd2 : Hid (q :: as) H := fun a ha => by
      rcases List.mem_cons.mp ha with rfl | ha
      · exact ⟨o, e, con.mut⟩
      · exact hd.gr g a ha
    refine ⟨q, o, rfl, n, e, ?_⟩
    cases con with
    | lst r => exact .lst (RepAll.purely hd2 p (r.gr (hideL_le H _).gr))
    | dK r => exact .dK (RepAll.purely hd2 p (r.gr (hideL_le H _).gr))
    | dT r => exact .dT (RepAll.purely hd2 p (r.gr (hideL_le H _).gr))
  | al => cases p
theorem args_open {vs0 : List V} : ∀ {vs : List V} {ds : List Dt}, (∀ v ∈ vs, v ∈ vs0) → RepCs c as H vs ds → RepAll c (hideL H (as.filter fun a => decide (V.ref a ∉ vs0))) vs ds
  | [], [], _, .nil => .nil
  | v :: vs, d :: ds, h, .cons a b => by
    refine .cons ?_ (args_open (fun v hv => h v (.tail _ hv)) b)
    have le : Le (hideL H as) (hideL H (as.filter fun a => decide (V.ref a ∉ vs0))) := hideL_mono H fun a ha => (List.mem_filter.mp ha).1
    rcases a with a | ⟨x, o, rfl, hx, e, con⟩
    · exact a.gr le.gr
    · refine con.rep le.gr ?_
      have hx2 : x ∉ as.filter fun a => decide (V.ref a ∉ vs0) := fun z => by
        have z2 := (List.mem_filter.mp z).2
        exact of_decide_eq_true z2 (h _ (.head _))
      rw [hideL_out hx2]
      exact e
end
def callD (F : List Dt → Mo Rv) (rvs : List Rv) : Mo Rv := (F (rvs.map (·.2))).bind fun rv => if rvs.all keepK = true ∨ pureIn rv = true then .ok rv else .no
def eCall (F : List Dt → Mo Rv) (fs : Ev → Mo (List Rv)) : Ev → Mo Rv := fun env => (fs env).bind fun rvs => callD F rvs
section
variable {c : Ct} {X : Cx} {E : XK} {e : Expr} {es : List Expr} {fs : Ev → Mo (List Rv)} {x : Str} {k : Nat} {ps : List Str} {F : List Dt → Mo Rv} {p pos : Pos}
/-- how many there are -/
def DAn (c : Ct) (X : Cx) (E : XK) (es : List Expr) (n : Nat) (f : Ev → Mo (List Rv)) : Prop := ∃ t, PA X es t ∧ RfA c E t f ∧ ∀ env rvs, f env = .ok rvs → rvs.length = n
theorem dan_nil : DAn c X E [] 0 aNil := ⟨_, pa_nil, rfa_nil, fun env rvs e => by cases e; rfl⟩
theorem dan_cons {a : Expr} {f : Ev → Mo Rv} {n : Nat} (ha : DE c X E a f) (hr : DAn c X E es n fs) (hs : starEach (a :: es) X.env = (false, eval a X.env) :: starEach es X.env := by rfl) : DAn c X E (a :: es) (n + 1) (aCons f fs) := by
  obtain ⟨_, pa, ra⟩ := ha
  obtain ⟨_, pr, rr, hn⟩ := hr
  refine ⟨_, pa_cons pa pr hs, rfa_cons ra rr, fun env rvs e => ?_⟩
  unfold aCons at e
  obtain ⟨x, e1, e2⟩ := Mo.bind_eq_ok e
  obtain ⟨xs, e3, e4⟩ := Mo.bind_eq_ok e2
  cases e4
  simp [hn env xs e3]
theorem rf_callN {t : TA} {n : Nat} (hn : n = ps.length) (ra : RfA c E t fs) (h : ∀ env rvs, fs env = .ok rvs → rvs.length = n) : RfE c E (tCall (spF c ps.length F) [] E t) (eCall F fs) := fun φ as σ H env R => by
  have T := ra φ as σ H env R
  cases m : fs env with
  | no => unfold eCall; rw [m]; exact .no
  | ex k n' =>
    rw [m] at T
    unfold eCall
    rw [m]
    exact ⟨fun b e => (by cases e), fun k' n'' e q Q => by cases e; exact T.ex k n' rfl q _⟩
  | ok rvs0 =>
    have l0 := h env rvs0 m
    unfold eCall
    rw [m] at T ⊢
    refine T.bind (f := fun rvs => callD F rvs) fun vs H1 rvs he g1 rs => ?_
    cases he
    have lv : vs.length = ps.length := by rw [rs.length, l0, hn]
    have R1 := R.gr g1
    refine ⟨fun rv ec Q q => ?_, fun kk n ec q Q => ?_⟩
    · unfold callD at ec
      obtain ⟨rv', e1, e2⟩ := Mo.bind_eq_ok ec
      obtain ⟨hc, e3⟩ := Mo.if_ok e2
      cases e3
      show spF c ps.length F (vs ++ []) H1 Q E
      rw [List.append_nil]
      rcases hc with hc | hc
      · exact ⟨as, _, lv, R1.hid, rs.keep R.hid g1 hc, R1.tabsF, .inl ⟨rv, e1, fun v H' g r => q v H' g (r.back g1)⟩⟩
      · exact ⟨_, _, lv, fun a ha => R1.hid a (List.mem_filter.mp ha).1, args_open (fun v hv => hv) (rs.rc R.hid), R1.tabsF, .inl ⟨rv, e1, fun v H' g r => q v H' g ((r.pureIn R1.hid g hc).back g1)⟩⟩
    · unfold callD at ec
      rcases Mo.bind_eq_ex ec with e1 | ⟨rv', e1, e2⟩
      · show spF c ps.length F (vs ++ []) H1 Q E
        rw [List.append_nil]
        exact ⟨_, _, lv, fun a ha => R1.hid a (List.mem_filter.mp ha).1, args_open (fun v hv => hv) (rs.rc R.hid), R1.tabsF, .inr ⟨kk, n, e1, fun H' u d g x => q H' u d g x⟩⟩
      · split at e2 <;> cases e2
/-- x(e, ..) -/
theorem de_call (O : FD c x k ps F) (hr : Room k X.A) (px : Px c X E) (ha : DAn c X E (e :: es) ps.length fs) (h1 : X.prog = c.P := by rfl) (h2 : X.w = c.w := by rfl) (h3 : X.K = c.K := by rfl) (h4 : X.mg = c.mg := by rfl) (h5 : X.base = c.base := by rfl)
    (hg : Gl X x := by rfl) (hdb : (x == ("__debug__" : Str)) = false := by decide) (he : starEach (e :: es) X.env = (false, eval e X.env) :: starEach es X.env := by rfl) (hpl : (backTo pos (starEach es X.env)).any (·.1) = false := by rfl) :
    DE c X E (.Call (.Name x p) (e :: es) [] pos) (eCall F fs) := by
  obtain ⟨f, fd, FO, hm, kp, hb⟩ := O
  obtain ⟨t, pa, ra, hn⟩ := ha
  refine ⟨_, pe_call (CX := CX c.P c.w) (E := E) (f := f) (fd := fd) (ps := ps) (ds := []) ?_ hr hg ?_ ?_ ?_ .nil px pa hdb he hpl, rf_callN rfl ra hn⟩
  · rw [h1, h2, h3, h4, h5]; exact FO
  · rw [h4]; exact hm
  · rw [h3]; exact kp
  · rw [h3]; exact hb
/-- x() -/
theorem de_call0 (O : FD c x k [] F) (hr : Room k X.A) (px : Px c X E) (h1 : X.prog = c.P := by rfl) (h2 : X.w = c.w := by rfl) (h3 : X.K = c.K := by rfl) (h4 : X.mg = c.mg := by rfl) (h5 : X.base = c.base := by rfl)
    (hg : Gl X x := by rfl) (hdb : (x == ("__debug__" : Str)) = false := by decide) : DE c X E (.Call (.Name x p) [] [] pos) (eCall F aNil) := by
  obtain ⟨f, fd, FO, hm, kp, hb⟩ := O
  refine ⟨_, pe_call0 (CX := CX c.P c.w) (E := E) (f := f) (fd := fd) (ps := []) (ds := []) ?_ hr hg ?_ ?_ ?_ .nil px hdb, rf_callN (ps := []) rfl rfa_nil fun env rvs e => by cases e; rfl⟩
  · rw [h1, h2, h3, h4, h5]; exact FO
  · rw [h4]; exact hm
  · rw [h3]; exact kp
  · rw [h3]; exact hb
end
def CallD (c : Ct) (r : List V → Hp → VK → Prop) (o : List Dt → Option Rv) : Prop := ∀ as H vs ds rv, Hid as H → RepCs c as H vs ds → o ds = some rv → ∀ Q : VK, (∀ v H', Gr H H' → RvR c as H H' v rv → Q v H') → r vs H Q
def eB (o : List Dt → Option Rv) (fs : Ev → Mo (List Rv)) : Ev → Mo Rv := fun env => (fs env).bind fun rvs => Mo.of (o (rvs.map (·.2)))
section
variable {c : Ct} {X : Cx} {E : XK} {e : Expr} {es : List Expr} {fs : Ev → Mo (List Rv)} {x : Str} {p pos : Pos} {id T : String} {r : List V → Hp → VK → Prop} {o : List Dt → Option Rv}
theorem rf_B {t : TA} (ho : CallD c r o) (ra : RfA c E t fs) : RfE c E (tCB r t) (eB o fs) := fun φ as σ H env R => (ra φ as σ H env R).bind fun vs H1 rvs he g1 rs => .of fun rv e Q q =>
  ho as H1 vs _ rv (R.hid.gr g1) (rs.rc R.hid) e Q fun v H' g r => q v H' g (r.back g1)
theorem de_callB (hr : CallR X (.builtin id) r) (ho : CallD c r o) (hm : c.mg x = none) (hv : bootBuiltins x = some (.builtin id)) (ha : DA c X E (e :: es) fs) (h4 : X.mg = c.mg := by rfl) (hg : Gl X x := by rfl) (hn : x ≠ "__name__" := by decide) (hdb : (x == ("__debug__" : Str)) = false := by decide)
    (he : starEach (e :: es) X.env = (false, eval e X.env) :: starEach es X.env := by rfl) (hpl : (backTo pos (starEach es X.env)).any (·.1) = false := by rfl) : DE c X E (.Call (.Name x p) (e :: es) [] pos) (eB o fs) := by
  obtain ⟨t, pa, ra⟩ := ha
  exact ⟨_, pe_callB hr hg (by rw [h4]; exact hm) hv pa hn hdb he hpl, rf_B ho ra⟩
theorem de_callTy (hr : CallR X (.type T) r) (ho : CallD c r o) (hm : c.mg x = none) (hv : bootBuiltins x = some (.type T)) (ha : DA c X E (e :: es) fs) (h4 : X.mg = c.mg := by rfl) (hg : Gl X x := by rfl) (hn : x ≠ "__name__" := by decide) (hdb : (x == ("__debug__" : Str)) = false := by decide)
    (he : starEach (e :: es) X.env = (false, eval e X.env) :: starEach es X.env := by rfl) (hpl : (backTo pos (starEach es X.env)).any (·.1) = false := by rfl) : DE c X E (.Call (.Name x p) (e :: es) [] pos) (eB o fs) := by
  obtain ⟨t, pa, ra⟩ := ha
  exact ⟨_, pe_callTy hr hg (by rw [h4]; exact hm) hv pa hn hdb he hpl, rf_B ho ra⟩
end
end Pm
set_option maxHeartbeats 4000000
namespace Pm
open PySem PySem.Spec PyProof.Rows L2 GxR GX
variable [LamTab]
inductive Fw where
  | nx (e : Ev)
  | bk (e : Ev)
  | ct (e : Ev)
  | rt (r : Rv) (e : Ev)
abbrev Sv := Ev → Mo Fw
/-- a value handed back: new since the entry, or open -/
def RtR (c : Ct) (φ : Fx) (H : Hp) (v : V) : Rv → Prop
  | (.nw, d) => ∃ p o, v = .ref p ∧ φ.H0 p = none ∧ H p = some o ∧ Con c (hideL H (p :: φ.as0)) o d
  | (.sh, d) => Rep c (hideL H φ.as0) v d
  | (.al, _) => False
/-- from here on D is reached -/
def FwOk (c : Ct) (φ : Fx) (as : List Addr) (H : Hp) (D : Ends) : Fw → Prop
  | .nx e => ∀ as' σ' H', Gr (hideL H as) (hideL H' as') → Rel c φ as' σ' H' e → D.nx σ' H'
  | .bk e => ∀ as' σ' H', Gr (hideL H as) (hideL H' as') → Rel c φ as' σ' H' e → D.bk σ' H'
  | .ct e => ∀ as' σ' H', Gr (hideL H as) (hideL H' as') → Rel c φ as' σ' H' e → D.ct σ' H'
  | .rt r e => ∀ as' σ' H' v, Gr (hideL H as) (hideL H' as') → Rel c φ as' σ' H' e → RtR c φ H' v r → D.rt v H'
def ExOk (c : Ct) (φ : Fx) (as : List Addr) (H : Hp) (E : XK) (k : Str) (n : Option Int) : Prop := ∀ as' σ' H' e u d, Gr (hideL H as) (hideL H' as') → Rel c φ as' σ' H' e → ExR c H' u d k n → E u d H'
structure Ts (c : Ct) (E : XK) (φ : Fx) (as : List Addr) (H : Hp) (t : Ends → Prop) (m : Mo Fw) : Prop where
  ok : ∀ fw, m = .ok fw → ∀ D, FwOk c φ as H D fw → t D
  ex : ∀ k n, m = .ex k n → ExOk c φ as H E k n → ∀ D, t D
def RfS (c : Ct) (E : XK) (t : TS) (m : Sv) : Prop := ∀ φ as σ H env, Rel c φ as σ H env → Ts c E φ as H (fun D => t D σ H) (m env)
def DS (c : Ct) (X : Cx) (E : XK) (st : Stmt) (m : Sv) : Prop := ∃ t, PS X st t ∧ RfS c E t m
def DSs (c : Ct) (X : Cx) (E : XK) (sts : List Stmt) (m : Sv) : Prop := ∃ t, PSs X sts t ∧ RfS c E t m
section
variable {c : Ct} {E : XK} {φ : Fx} {as as1 : List Addr} {H H1 : Hp} {D : Ends} {σ : L2.St} {env : Ev}
theorem FwOk.later {fw : Fw} (g : Gr (hideL H as) (hideL H1 as1)) (h : FwOk c φ as H D fw) : FwOk c φ as1 H1 D fw := by
  cases fw with
  | nx e => exact fun as' σ' H' g' R => h as' σ' H' (g.trans g') R
  | bk e => exact fun as' σ' H' g' R => h as' σ' H' (g.trans g') R
  | ct e => exact fun as' σ' H' g' R => h as' σ' H' (g.trans g') R
  | rt r e => exact fun as' σ' H' v g' R q => h as' σ' H' v (g.trans g') R q
theorem ExOk.later {k : Str} {n : Option Int} (g : Gr (hideL H as) (hideL H1 as1)) (h : ExOk c φ as H E k n) : ExOk c φ as1 H1 E k n := fun as' σ' H' e u d g' R x => h as' σ' H' e u d (g.trans g') R x
theorem ExOk.of {k : Str} {n : Option Int} (R : Rel c φ as σ H env) (h : ExOk c φ as H E k n) : ∀ H' u d, Gr H H' → ExR c H' u d k n → E u d H' := fun H' u d g x => h as σ H' env u d (g.hide R.hid) (R.gr g) x
theorem Ts.back {t : Ends → Prop} {m : Mo Fw} (g : Gr (hideL H as) (hideL H1 as1)) (h : Ts c E φ as1 H1 t m) : Ts c E φ as H t m := ⟨fun fw e D q => h.ok fw e D (q.later g), fun k n e q D => h.ex k n e (q.later g) D⟩
/-- an expression, then what follows -/
theorem Tr.st' {α β : Type} {S : α → Hp → β → Prop} {t : (α → Hp → Prop) → Prop} {m : Mo β} {u : α → Hp → Ends → Prop} {f : β → Mo Fw} (R : Rel c φ as σ H env) (h : Tr c E H S t m) (hu : ∀ a H1 b, m = .ok b → Gr H H1 → S a H1 b → Ts c E φ as H (u a H1) (f b)) : Ts c E φ as H (fun D => t fun a H1 => u a H1 D) (m.bind f) := by
  refine ⟨fun fw e D q => ?_, fun k n e q D => ?_⟩
  · obtain ⟨b, e1, e2⟩ := Mo.bind_eq_ok e
    exact h.ok b e1 _ fun a H1 g s => (hu a H1 b e1 g s).ok fw e2 D q
  · rcases Mo.bind_eq_ex e with e1 | ⟨b, e1, e2⟩
    · exact h.ex k n e1 (q.of R) _
    · exact h.ok b e1 _ fun a H1 g s => (hu a H1 b e1 g s).ex k n e2 q D
theorem Tr.st {α β : Type} {S : α → Hp → β → Prop} {t : (α → Hp → Prop) → Prop} {m : Mo β} {u : α → Hp → Ends → Prop} {f : β → Mo Fw} (R : Rel c φ as σ H env) (h : Tr c E H S t m) (hu : ∀ a H1 b, m = .ok b → Gr H H1 → S a H1 b → Ts c E φ as H1 (u a H1) (f b)) : Ts c E φ as H (fun D => t fun a H1 => u a H1 D) (m.bind f) :=
  h.st' R fun a H1 b e g s => (hu a H1 b e g s).back (g.hide R.hid)
theorem Ts.no {t : Ends → Prop} : Ts c E φ as H t .no := ⟨fun _ e => (by cases e), fun _ _ e => (by cases e)⟩
end
section
variable {c : Ct} {X : Cx} {E : XK} {st : Stmt} {sts : List Stmt} {m m' : Sv} {pos : Pos} {e : Expr} {f : Ev → Mo Rv}
def mNil : Sv := fun env => .ok (.nx env)
def mSeq (m m' : Sv) : Sv := fun env => (m env).bind fun fw => match fw with
  | .nx e => m' e
  | fw => .ok fw
theorem dss_nil : DSs c X E [] mNil := ⟨_, pss_nil, fun φ as σ H env R => ⟨fun fw e D q => by cases e; exact q as σ H (.refl _) R, fun k n e => by cases e⟩⟩
theorem rf_seq {t u : TS} (h1 : RfS c E t m) (h2 : RfS c E u m') : RfS c E (tSeq t u) (mSeq m m') := fun φ as σ H env R => by
  have T := h1 φ as σ H env R
  refine ⟨fun fw e D q => ?_, fun k n e q D => ?_⟩
  · obtain ⟨fw1, e1, e2⟩ := Mo.bind_eq_ok e
    refine T.ok fw1 e1 _ ?_
    cases fw1 with
    | nx e' => exact fun as' σ' H' g R' => (h2 φ as' σ' H' e' R').ok fw e2 D (q.later g)
    | bk e' => cases e2; exact q
    | ct e' => cases e2; exact q
    | rt r e' => cases e2; exact q
  · rcases Mo.bind_eq_ex e with e1 | ⟨fw1, e1, e2⟩
    · exact T.ex k n e1 q _
    · refine T.ok fw1 e1 _ ?_
      cases fw1 with
      | nx e' => exact fun as' σ' H' g R' => (h2 φ as' σ' H' e' R').ex k n e2 (q.later g) D
      | bk e' => cases e2
      | ct e' => cases e2
      | rt r e' => cases e2
theorem dss_cons (h1 : DS c X E st m) (h2 : DSs c X E sts m') : DSs c X E (st :: sts) (mSeq m m') := let ⟨_, p1, r1⟩ := h1; let ⟨_, p2, r2⟩ := h2; ⟨_, pss_cons p1 p2, rf_seq r1 r2⟩
theorem dss_one (h1 : DS c X E st m) : DSs c X E [st] m := let ⟨_, p1, r1⟩ := h1; ⟨_, pss_one p1, r1⟩
def mIf (p : Ev → Mo Bool) (m m' : Sv) : Sv := fun env => (p env).bind fun k => if k = true then m env else m' env
theorem ds_if {a b : List Stmt} {p : Ev → Mo Bool} (hc : DT c X E e p) (ha : DSs c X E a m) (hb : DSs c X E b m') : DS c X E (.If e a b pos) (mIf p m m') := by
  obtain ⟨t, pc, rc⟩ := hc
  obtain ⟨ta, pa, ra⟩ := ha
  obtain ⟨tb, pb, rb⟩ := hb
  refine ⟨_, ps_if pc pa pb, fun φ as σ H env R => (rc φ as σ H env R).st R fun k H1 k' _ g1 r1 => ?_⟩
  subst r1
  cases k with
  | true => exact ra φ as σ H1 env (R.gr g1)
  | false => exact rb φ as σ H1 env (R.gr g1)
theorem Gr.hideN {as : List Addr} {H0 H : Hp} {p : Addr} (hd : Hid (p :: as) H) (n : H0 p = none) (g : Gr H0 H) : Gr (hideL H0 as) (hideL H (p :: as)) := fun b o e => by
  obtain ⟨h1, h2⟩ := hideL_some e
  have hb : b ∉ p :: as := by simp [h1, ne_of_none h2 n]
  rcases g b o h2 with q | ⟨ps, ps', z, q, t, u⟩
  · exact .inl (by rw [hideL_out hb]; exact q)
  · exact .inr ⟨ps, ps', z, by rw [hideL_out hb]; exact q, t, fun pos cv w => (u pos cv w).imp _root_.id (goodAt_hideL hd)⟩
theorem Hid.cons {as : List Addr} {H : Hp} {p : Addr} {o : HO} (h : Hid as H) (e : H p = some o) (m : MutO o) : Hid (p :: as) H := fun a ha => by
  rcases List.mem_cons.mp ha with rfl | ha
  · exact ⟨o, e, m⟩
  · exact h a ha
theorem Rel.mlsOw {φ : Fx} {as : List Addr} {σ : L2.St} {H0 H : Hp} {env : Ev} {p : Addr} {d : Dt} {i : Nat} (R : Rel c φ as σ H0 env) (g : Gr H0 H) (n : H0 p = none) (gB : Gr (hideL H0 as) (hideL H (p :: as))) : MlR c φ (p :: as) (σ.set i (some (.ref p))) H (env.set i (some (.ow, d))) :=
  R.mls.move (fun j d' q => by
    rw [List.getElem?_set] at q
    rw [List.getElem?_set]
    by_cases z : i = j
    · subst z
      rw [if_pos rfl] at q
      split at q <;> cases q
    · rw [if_neg z] at q
      rw [if_neg z]
      exact ⟨q, rfl⟩) (fun j d' q => by
    rw [List.getElem?_set] at q
    rw [List.getElem?_set]
    by_cases z : i = j
    · subst z
      rw [if_pos rfl]
      refine .inr fun x hx y => ?_
      split at y
      · cases y
        exact R.hid.new n hx
      · cases y
    · rw [if_neg z] at q
      rw [if_neg z]
      exact .inl ⟨d', q, rfl⟩) (fun x hx _ _ _ => ⟨.tail _ hx, by obtain ⟨o, e, m⟩ := R.hid x hx; rw [g.keep e m.noTbl, e]⟩) gB (fun _ => some_gr g)
theorem Rel.setOw {φ : Fx} {as : List Addr} {σ : L2.St} {H0 H : Hp} {env : Ev} {p : Addr} {o : HO} {d : Dt} (i : Nat) (R : Rel c φ as σ H0 env) (g : Gr H0 H) (n : H0 p = none) (e : H p = some o) (con : Con c (hideL H (p :: as)) o d) : Rel c φ (p :: as) (σ.set i (some (.ref p))) H (env.set i (some (.ow, d))) := by
  have hd := (R.hid.gr g).cons e con.mut
  have gB := g.hideN hd n
  refine ⟨?_, hd, fun a ha => .tail _ (R.sub a ha), R.base.trans gB, R.tabs.gr gB, (R.gr g).keep, fun j fl d' q => ?_, fun j k d1 d2 ne q1 q2 => ?_, R.ioN, R.ioM, R.mlsOw g n gB⟩
  · rw [List.length_set, List.length_set]; exact R.len
  · rw [List.getElem?_set] at q
    rw [List.getElem?_set]
    by_cases z : i = j
    · subst z
      rw [if_pos rfl] at q
      rw [if_pos rfl, R.len]
      by_cases l : i < env.length
      · rw [if_pos l] at q
        rw [if_pos l]
        cases q
        exact ⟨_, rfl, p, o, rfl, .head _, R.n0 n, e, con⟩
      · rw [if_neg l] at q; cases q
    · rw [if_neg z] at q
      rw [if_neg z]
      obtain ⟨v, e1, h⟩ := R.slot j fl d' q
      refine ⟨v, e1, ?_⟩
      cases fl with
      | sh => exact Rep.gr gB h
      | ow =>
        obtain ⟨a, o', rfl, h2, h3, h4, h5⟩ := h
        exact ⟨a, o', rfl, .tail _ h2, h3, g.keep h4 h5.mut.noTbl, h5.gr gB⟩
      | io =>
        obtain ⟨a, o', rfl, h2, h3, h4, h5⟩ := h
        exact ⟨a, o', rfl, h2, h3, g.keep h4 h5.mut.noTbl, h5.gr gB⟩
      | ml => trivial
      | mr =>
        obtain ⟨b, e2, m2⟩ := h
        exact ⟨b, e2, m2.gr gB⟩
  · have own : ∀ (k : Nat) (d2 : Dt), i ≠ k → env[k]? = some (some (Fl.ow, d2)) → σ[k]? ≠ some (some (.ref p)) := fun k d2 _ q => R.nd n k d2 q
    have hl : ∀ {x : Option (Option V)}, (if i < σ.length then some (some (V.ref p)) else none) = x → x ≠ none → x = some (some (.ref p)) := fun {x} h hn => by
      split at h
      · exact h.symm
      · exact absurd h.symm hn
    rw [List.getElem?_set] at q1 q2
    rw [List.getElem?_set, List.getElem?_set]
    by_cases z : i = j
    · subst z
      rw [if_pos rfl] at q1
      rw [if_neg ne] at q2
      rw [if_pos rfl, if_neg ne]
      have l : i < σ.length := by
        rw [R.len]
        by_cases l : i < env.length
        · exact l
        · rw [if_neg l] at q1; cases q1
      rw [if_pos l]
      exact fun z => own k d2 ne q2 z.symm
    · rw [if_neg z] at q1
      rw [if_neg z]
      by_cases z2 : i = k
      · subst z2
        rw [if_pos rfl] at q2
        rw [if_pos rfl]
        have l : i < σ.length := by
          rw [R.len]
          by_cases l : i < env.length
          · exact l
          · rw [if_neg l] at q2; cases q2
        rw [if_pos l]
        exact own j d1 z q1
      · rw [if_neg z2] at q2
        rw [if_neg z2]
        exact R.dj j k d1 d2 ne q1 q2
/-- what a name then holds -/
def bind1 (i : Nat) (rv : Rv) (env : Ev) : Option Ev := match rv with
  | (.nw, d) => some (env.set i (some (.ow, d)))
  | (.sh, d) => some (env.set i (some (.sh, d)))
  | (.al, d) => if d.pure = true then some (env.set i (some (.sh, d))) else none
theorem Rel.bind1 {φ : Fx} {as : List Addr} {σ : L2.St} {H0 H : Hp} {env env' : Ev} {i : Nat} {v : V} {rv : Rv} (R : Rel c φ as σ H0 env) (g : Gr H0 H) (r : RvR c as H0 H v rv) (e : Pm.bind1 i rv env = some env') :
    ∃ as', Gr (hideL H0 as) (hideL H as') ∧ Rel c φ as' (σ.set i (some v)) H env' := by
  obtain ⟨k, d⟩ := rv
  cases k with
  | nw =>
    unfold Pm.bind1 at e
    cases e
    obtain ⟨p, o, rfl, n, eo, con⟩ := r
    exact ⟨p :: as, g.hideN ((R.hid.gr g).cons eo con.mut) n, R.setOw i g n eo con⟩
  | sh =>
    unfold Pm.bind1 at e
    cases e
    exact ⟨as, g.hide R.hid, (R.gr g).setSh r⟩
  | al =>
    unfold Pm.bind1 at e
    dsimp only at e
    split at e
    · rename_i hp; cases e
      exact ⟨as, g.hide R.hid, (R.gr g).setSh (RepC.pure (R.hid.gr g) hp r)⟩
    · cases e
def mSet (i : Nat) (f : Ev → Mo Rv) : Sv := fun env => (f env).bind fun rv => (Mo.of (bind1 i rv env)).bind fun e => .ok (.nx e)
theorem rf_set {i : Nat} {te : TE} (r : RfE c E te f) : RfS c E (tAsg te (gName i)) (mSet i f) := fun φ as σ H env R => (r φ as σ H env R).st' R fun v H1 rv _ g1 r1 => by
  refine ⟨fun fw e D q => ?_, fun k n e => ?_⟩
  · obtain ⟨env', e1, e2⟩ := Mo.bind_eq_ok e
    cases e2
    obtain ⟨as', gg, R'⟩ := R.bind1 g1 r1 (Mo.of_eq_ok e1)
    exact q as' _ H1 gg R'
  · rcases Mo.bind_eq_ex e with e1 | ⟨_, _, e2⟩
    · exact (Mo.of_ne_ex e1).elim
    · cases e2
theorem ds_set {i : Nat} {x : Str} {pos' : Pos} (hN : X.N.Nodup) (hi : X.N[i]? = some x) (hx : Loc X.env.scope x) (he : DE c X E e f) (hs : swapsWith e (some (.Name x pos')) pos.line X.env = pure false := by rfl) (hf : X.fn x = true ∨ X.env.scope.names.lookup x = some .local := by first | exact .inl rfl | exact .inr rfl | assumption) :
    DS c X E (.Assign [.Name x pos'] e pos) (mSet i f) := let ⟨_, p, r⟩ := he; ⟨_, ps_set hN hi hx p hs hf, rf_set r⟩
/-- a, b = e -/
def mPat (p : Dt → Ev → Option Ev) (f : Ev → Mo Rv) : Sv := fun env => (f env).bind fun rv => if keepK rv = true then (Mo.of (p rv.2 env)).bind fun e => .ok (.nx e) else .no
theorem ds_pat {tg : Expr} {p : Dt → Ev → Option Ev} {sl : List Nat} (he : DE c X E e f) (hg : DG c X tg p sl) (hs : swapsWithSole [tg] e pos.line X.env = pure false := by rfl) (hw : swappedStores [tg] e X.env = pure none := by rfl)
    (h1 : (assignEach [tg] X.env).map (·.2) = [assign tg X.env] := by rfl) : DS c X E (.Assign [tg] e pos) (mPat p f) := by
  obtain ⟨t, pe, r⟩ := he
  obtain ⟨g, pg, rg⟩ := hg
  refine ⟨_, ps_asg pe pg hs hw h1, fun φ as σ H env R => (r φ as σ H env R).st R fun v H1 rv _ g1 r1 => ⟨fun fw e D q => ?_, fun k n e => ?_⟩⟩
  · obtain ⟨hk, e0⟩ := Mo.if_ok e
    obtain ⟨env', e1, e2⟩ := Mo.bind_eq_ok e0
    cases e2
    exact rg φ as σ H1 env v rv.2 env' (R.gr g1) (r1.keep R.hid g1 hk) (Mo.of_eq_ok e1) _ fun σ' R' _ _ => q as σ' H1 (.refl _) R'
  · split at e
    · rcases Mo.bind_eq_ex e with e1 | ⟨_, _, e2⟩
      · exact (Mo.of_ne_ex e1).elim
      · cases e2
    · cases e
end
end Pm
set_option maxHeartbeats 4000000
namespace Pm
open PySem PySem.Spec PyProof.Rows L2 GxR GX
variable [LamTab]
section
variable {c : Ct} {X : Cx} {E : XK} {st : Stmt} {sts : List Stmt} {m m' : Sv} {pos : Pos} {e : Expr} {f : Ev → Mo Rv} {φ : Fx} {as : List Addr} {σ : L2.St} {H H' : Hp} {env : Ev}
theorem Rel.new0 (R : Rel c φ as σ H env) {p : Addr} (n : H p = none) : φ.H0 p = none := by
  have h0 := R.n0 n
  cases q : φ.H0 p with
  | none => rfl
  | some o =>
    have z := R.base.free (show hideL H as p = none by
      by_cases e : p ∈ as
      · exact hideL_in e
      · rw [hideL_out e]; exact n)
    rw [hideL_out h0, q] at z
    cases z
theorem RvR.rt {v : V} {rv : Rv} (R : Rel c φ as σ H env) (g : Gr H H') (hk : rv.1 ≠ .al) (r : RvR c as H H' v rv) : RtR c φ H' v rv := by
  obtain ⟨k, d⟩ := rv
  cases k with
  | nw =>
    obtain ⟨p, o, rfl, n, e, con⟩ := r
    exact ⟨p, o, rfl, R.new0 n, e, con.gr (hideL_mono H' fun a ha => by
      rcases List.mem_cons.mp ha with rfl | ha
      · exact .head _
      · exact .tail _ (R.sub a ha)).gr⟩
  | sh => exact Rep.gr (hideL_mono H' R.sub).gr r
  | al => exact absurd rfl hk
def outRv : Rv → Option Rv
  | (.al, d) => if d.pure = true then some (.sh, d) else none
  | rv => some rv
def mRet (f : Ev → Mo Rv) : Sv := fun env => (f env).bind fun rv => (Mo.of (outRv rv)).bind fun r => .ok (.rt r env)
theorem ds_ret (he : DE c X E e f) : DS c X E (.Return (some e) pos) (mRet f) := by
  obtain ⟨t, p, r⟩ := he
  refine ⟨_, ps_ret p, fun φ as σ H env R => (r φ as σ H env R).st' R fun v H1 rv _ g1 r1 => ⟨fun fw e D q => ?_, fun k n e => ?_⟩⟩
  · obtain ⟨r', e1, e2⟩ := Mo.bind_eq_ok e
    cases e2
    have e1' := Mo.of_eq_ok e1
    obtain ⟨k, d⟩ := rv
    refine q as σ H1 v (g1.hide R.hid) (R.gr g1) ?_
    cases k with
    | nw => cases e1'; exact r1.rt R g1 (by simp)
    | sh => cases e1'; exact r1.rt R g1 (by simp)
    | al =>
      unfold outRv at e1'
      dsimp only at e1'
      split at e1'
      · rename_i hp; cases e1'
        exact Rep.gr (hideL_mono H1 R.sub).gr (RepC.pure (R.hid.gr g1) hp r1)
      · cases e1'
  · rcases Mo.bind_eq_ex e with e1 | ⟨_, _, e2⟩
    · exact (Mo.of_ne_ex e1).elim
    · cases e2
/-- return x, x a name: what is the def's own is handed over -/
def mRetV (i : Nat) : Sv := fun env => match env[i]? with
  | some (some (.ow, d)) => .ok (.rt (.nw, d) env)
  | some (some (.sh, d)) => .ok (.rt (.sh, d) env)
  | _ => .no
theorem ds_retV {i : Nat} {x : Str} {pos' : Pos} (hN : X.N[i]? = some x) (hv : Vis X.env.scope x) (hd : (x == ("__debug__" : Str)) = false := by decide) (hcd : (x == ("__classdict__" : Str)) = false := by decide) : DS c X E (.Return (some (.Name x pos')) pos) (mRetV i) := by
  refine ⟨_, ps_ret (pe_var hN hv hd hcd), fun φ as σ H env R => ⟨fun fw e D q => ?_, fun k n e => ?_⟩⟩
  · unfold mRetV at e
    split at e
    · rename_i d e1; cases e
      obtain ⟨v, s1, a, o, rfl, h2, h3, h4, h5⟩ := R.slot i _ d e1
      refine ⟨_, s1, q as σ H _ (.refl _) R ⟨a, o, rfl, ?_, h4, h5.gr (hideL_mono H fun b hb => ?_).gr⟩⟩
      · cases z : φ.H0 a with
        | none => rfl
        | some u =>
          rcases R.base a u (by rw [hideL_out h3]; exact z) with y | ⟨_, _, _, y, _⟩
          · rw [hideL_in h2] at y; cases y
          · rw [hideL_in h2] at y; cases y
      · rcases List.mem_cons.mp hb with rfl | hb
        · exact h2
        · exact R.sub b hb
    · rename_i d e1; cases e
      obtain ⟨v, s1, h⟩ := R.slot i _ d e1
      exact ⟨v, s1, q as σ H _ (.refl _) R (Rep.gr (hideL_mono H R.sub).gr h)⟩
    · cases e
  · unfold mRetV at e
    split at e <;> cases e
def frz (i : Nat) (env : Ev) : Ev := match env[i]? with
  | some (some (.ow, d)) => env.set i (some (.sh, d))
  | _ => env
theorem Rel.frz (R : Rel c φ as σ H env) (i : Nat) : ∃ as', Gr (hideL H as) (hideL H as') ∧ Rel c φ as' σ H (Pm.frz i env) := by
  unfold Pm.frz
  split
  · rename_i d e1
    obtain ⟨v, s1, a, o, rfl, h2, h3, h4, h5⟩ := R.slot i _ d e1
    have sub : ∀ b ∈ as.filter (fun b => decide (b ≠ a)), b ∈ as := fun b hb => (List.mem_filter.mp hb).1
    have le := hideL_mono H sub
    have na : a ∉ as.filter (fun b => decide (b ≠ a)) := fun z => by
      have z2 := (List.mem_filter.mp z).2
      exact of_decide_eq_true z2 rfl
    refine ⟨as.filter fun b => decide (b ≠ a), le.gr, ⟨by rw [List.length_set]; exact R.len, fun b hb => R.hid b (sub b hb), fun b hb => List.mem_filter.mpr ⟨R.sub b hb, decide_eq_true fun z => h3 (by rw [← z]; exact hb)⟩, R.base.trans le.gr, R.tabs.gr le.gr, R.keep, fun j fl d' q => ?_, fun j k d1 d2 ne q1 q2 => ?_, R.ioN, R.ioM, R.mls.move (fun j d' q => ?_) (fun j d' q => ?_) (fun x hx _ _ no => ⟨List.mem_filter.mpr ⟨hx, decide_eq_true fun z => no i d e1 (by rw [s1, z])⟩, rfl⟩) le.gr (fun _ h => h)⟩⟩
    · rw [List.getElem?_set] at q
      by_cases z : i = j
      · subst z
        rw [if_pos rfl] at q
        split at q
        · cases q
          exact ⟨_, s1, h5.rep le.gr (by rw [hideL_out na]; exact h4)⟩
        · cases q
      · rw [if_neg z] at q
        obtain ⟨v, e1', h⟩ := R.slot j fl d' q
        refine ⟨v, e1', ?_⟩
        cases fl with
        | sh => exact Rep.gr le.gr h
        | ow =>
          obtain ⟨b, o', rfl, k2, k3, k4, k5⟩ := h
          refine ⟨b, o', rfl, List.mem_filter.mpr ⟨k2, decide_eq_true fun y => ?_⟩, k3, k4, k5.gr le.gr⟩
          subst y
          exact R.dj i j d d' z e1 q (by rw [s1, e1'])
        | io =>
          obtain ⟨b, o', rfl, k2, k3, k4, k5⟩ := h
          exact ⟨b, o', rfl, k2, k3, k4, k5.gr le.gr⟩
        | ml => trivial
        | mr =>
          obtain ⟨b, e2, m2⟩ := h
          exact ⟨b, e2, m2.gr le.gr⟩
    · rw [List.getElem?_set] at q1 q2
      by_cases z : i = j
      · subst z
        rw [if_pos rfl] at q1
        split at q1 <;> cases q1
      · rw [if_neg z] at q1
        by_cases z2 : i = k
        · subst z2
          rw [if_pos rfl] at q2
          split at q2 <;> cases q2
        · rw [if_neg z2] at q2
          exact R.dj j k d1 d2 ne q1 q2
    · rw [List.getElem?_set] at q
      by_cases z : i = j
      · subst z
        rw [if_pos rfl] at q
        split at q <;> cases q
      · rw [if_neg z] at q
        exact ⟨q, rfl⟩
    · rw [List.getElem?_set] at q
      by_cases z : i = j
      · subst z
        rw [if_pos rfl] at q
        split at q <;> cases q
      · rw [if_neg z] at q
        exact .inl ⟨d', q, rfl⟩
  · exact ⟨as, .refl _, R⟩
def mFrz (i : Nat) (m : Sv) : Sv := fun env => m (frz i env)
theorem rf_frz {t : TS} (i : Nat) (h : RfS c E t m) : RfS c E t (mFrz i m) := fun φ as σ H env R => let ⟨as', g, R'⟩ := R.frz i; (h φ as' σ H (frz i env) R').back g
theorem ds_frz (i : Nat) (h : DS c X E st m) : DS c X E st (mFrz i m) := let ⟨t, p, r⟩ := h; ⟨t, p, rf_frz i r⟩
/-- the slot's own thing, at a, has become o -/
theorem Rel.write (R : Rel c φ as σ H env) {i : Nat} {fl : Fl} {d d1 : Dt} {a : Addr} {o : HO} (hi : env[i]? = some (some (fl, d))) (hfm : fl ≠ .sh ∧ fl ≠ .ml ∧ fl ≠ .mr) (s : σ[i]? = some (some (.ref a))) (sx : Sx a H H') (e : H' a = some o) (con : Con c (hideL H' as) o d1) :
    Gr (hideL H as) (hideL H' as) ∧ Rel c φ as σ H' (env.set i (some (fl, d1))) := by
  have hfl := hfm.1
  have hml := hfm.2.1
  have hmr := hfm.2.2
  obtain ⟨v, s', h⟩ := R.slot i fl d hi
  rw [s] at s'; cases s'
  have ha : a ∈ as := by
    cases fl with
    | sh => exact absurd rfl hfl
    | ow => obtain ⟨b, _, z, h2, _⟩ := h; cases z; exact h2
    | io => obtain ⟨b, _, z, _, h3, _⟩ := h; cases z; exact R.sub _ h3
    | ml => exact absurd rfl hml
    | mr => exact absurd rfl hmr
  have keepB : ∀ b ∈ as, b ≠ a → H' b = H b := fun b hb ne => by
    obtain ⟨o', eo, mo⟩ := R.hid b hb
    have z : hideL H [a] b = some o' := by rw [hideL_out (by simp [ne])]; exact eo
    rw [eo]
    exact (hideL_some (Gr.keep sx z mo.noTbl)).2
  have zz : ∀ H : Hp, hideL H as = hideL (hideL H [a]) as := fun H => by
    funext b
    by_cases h1 : b ∈ as
    · rw [hideL_in h1, hideL_in h1]
    · rw [hideL_out h1, hideL_out h1, hideL_out (by simp; exact fun z => h1 (by rw [z]; exact ha))]
  have gB : Gr (hideL H as) (hideL H' as) := by
    intro b u q
    obtain ⟨h1, h2⟩ := hideL_some q
    have ne : b ≠ a := fun z => h1 (by rw [z]; exact ha)
    have hd' : Hid as H' := fun b hb => by
      by_cases z : b = a
      · subst z; exact ⟨o, e, con.mut⟩
      · obtain ⟨o', eo, mo⟩ := R.hid b hb
        exact ⟨o', by rw [keepB b hb z]; exact eo, mo⟩
    rcases sx b u (by rw [hideL_out (by simp [ne])]; exact h2) with y | ⟨ps, ps', z1, y, t, w⟩
    · exact .inl (by rw [hideL_out h1]; exact (hideL_some y).2)
    · exact .inr ⟨ps, ps', z1, by rw [hideL_out h1]; exact (hideL_some y).2, t, fun pos cv x => (w pos cv x).imp _root_.id fun gc => goodAt_hideL hd' (goodAt_gr (hideL_le _ _).gr gc)⟩
  refine ⟨gB, ⟨by rw [List.length_set]; exact R.len, fun b hb => ?_, R.sub, R.base.trans gB, R.tabs.gr gB, fun b hb hn hm => ?_, fun j fl' d' q => ?_, fun j k d2 d3 ne q1 q2 => ?_, R.ioN, R.ioM, R.mls.move (fun j d' q => ?_) (fun j d' q => ?_) (fun x hx hx0 _ no => ⟨hx, keepB x hx fun z => ?_⟩) gB (fun x hx => ?_)⟩⟩
  · by_cases z : b = a
    · subst z; exact ⟨o, e, con.mut⟩
    · obtain ⟨o', eo, mo⟩ := R.hid b hb
      exact ⟨o', by rw [keepB b hb z]; exact eo, mo⟩
  · have ne : b ≠ a := fun z => by
      cases fl with
      | sh => exact hfl rfl
      | ow => obtain ⟨x, _, y, _, h3, _⟩ := h; cases y; exact h3 (by rw [← z]; exact hb)
      | io => obtain ⟨x, _, y, h2, _⟩ := h; cases y; exact hn (by rw [z]; exact List.mem_map.mpr ⟨_, h2, rfl⟩)
      | ml => exact hml rfl
      | mr => exact hmr rfl
    rw [keepB b (R.sub b hb) ne]
    exact R.keep b hb hn hm
  · rw [List.getElem?_set] at q
    by_cases z : i = j
    · subst z
      rw [if_pos rfl] at q
      split at q
      · cases q
        refine ⟨_, s, ?_⟩
        cases fl with
        | sh => exact absurd rfl hfl
        | ow => obtain ⟨x, _, y, h2, h3, _⟩ := h; cases y; exact ⟨a, o, rfl, h2, h3, e, con⟩
        | io => obtain ⟨x, _, y, h2, h3, _⟩ := h; cases y; exact ⟨a, o, rfl, h2, h3, e, con⟩
        | ml => exact absurd rfl hml
        | mr => exact absurd rfl hmr
      · cases q
    · rw [if_neg z] at q
      obtain ⟨v, e1', k⟩ := R.slot j fl' d' q
      refine ⟨v, e1', ?_⟩
      have diff : ∀ b, v = .ref b → (fl' = .ow ∨ fl' = .io) → b ≠ a := fun b hv hf y => by
        subst y hv
        cases fl with
        | sh => exact hfl rfl
        | ml => exact hml rfl
        | mr => exact hmr rfl
        | ow =>
          rcases hf with rfl | rfl
          · exact R.dj i j d d' z hi q (by rw [s, e1'])
          · obtain ⟨x, _, y1, h2, h3, _⟩ := h
            cases y1
            obtain ⟨x, _, y2, k2, k3, _⟩ := k
            cases y2
            exact h3 k3
        | io =>
          obtain ⟨x, _, y1, h2, h3, _⟩ := h
          cases y1
          rcases hf with rfl | rfl
          · obtain ⟨x, _, y2, k2, k3, _⟩ := k
            cases y2
            exact k3 h3
          · obtain ⟨x, _, y2, k2, k3, _⟩ := k
            cases y2
            have n2 := R.ioN.1
            have key : ∀ l : List (Nat × Addr), (l.map (·.2)).Nodup → (i, b) ∈ l → (j, b) ∈ l → i = j := by
              intro l
              induction l with
              | nil => intro _ h; cases h
              | cons x l ih =>
                intro nd h1 h2
                rw [List.map_cons, List.nodup_cons] at nd
                rcases List.mem_cons.mp h1 with e1 | e1
                · rcases List.mem_cons.mp h2 with e2 | e2
                  · rw [← e1] at e2; exact (congrArg Prod.fst e2).symm
                  · exact absurd (List.mem_map.mpr ⟨_, e2, by rw [← e1]⟩) nd.1
                · rcases List.mem_cons.mp h2 with e2 | e2
                  · exact absurd (List.mem_map.mpr ⟨_, e1, by rw [← e2]⟩) nd.1
                  · exact ih nd.2 e1 e2
            exact z (key _ n2 h2 k2)
      cases fl' with
      | sh => exact Rep.gr gB k
      | ow =>
        obtain ⟨b, o', rfl, k2, k3, k4, k5⟩ := k
        exact ⟨b, o', rfl, k2, k3, by rw [keepB b k2 (diff b rfl (.inl rfl))]; exact k4, k5.gr gB⟩
      | io =>
        obtain ⟨b, o', rfl, k2, k3, k4, k5⟩ := k
        exact ⟨b, o', rfl, k2, k3, by rw [keepB b (R.sub b k3) (diff b rfl (.inr rfl))]; exact k4, k5.gr gB⟩
      | ml => trivial
      | mr =>
        obtain ⟨b, e2, m2⟩ := k
        exact ⟨b, e2, m2.gr gB⟩
  · have h1 : ∀ (k : Nat) (d2 : Dt), (env.set i (some (fl, d1)))[k]? = some (some (Fl.ow, d2)) → ∃ d3, env[k]? = some (some (Fl.ow, d3)) := fun k d2 q => by
      rw [List.getElem?_set] at q
      by_cases z : i = k
      · subst z
        rw [if_pos rfl] at q
        split at q
        · cases q; exact ⟨d, hi⟩
        · cases q
      · rw [if_neg z] at q; exact ⟨d2, q⟩
    obtain ⟨d4, y1⟩ := h1 j d2 q1
    obtain ⟨d5, y2⟩ := h1 k d3 q2
    exact R.dj j k d4 d5 ne y1 y2
  · rw [List.getElem?_set] at q
    by_cases z : i = j
    · subst z
      rw [if_pos rfl] at q
      split at q
      · cases q; exact absurd rfl hml
      · cases q
    · rw [if_neg z] at q
      exact ⟨q, rfl⟩
  · rw [List.getElem?_set] at q
    by_cases z : i = j
    · subst z
      rw [if_pos rfl] at q
      split at q
      · cases q; exact .inl ⟨d, hi, rfl⟩
      · cases q
    · rw [if_neg z] at q
      exact .inl ⟨d', q, rfl⟩
  · subst z
    cases fl with
    | sh => exact hfl rfl
    | ml => exact hml rfl
    | mr => exact hmr rfl
    | ow => exact no i d hi s
    | io =>
      obtain ⟨x', _, y, h2, h3, _⟩ := h
      cases y
      exact R.ioM _ (hx0 h3) (List.mem_map.mpr ⟨_, h2, rfl⟩)
  · by_cases z : x ∈ as
    · by_cases y : x = a
      · subst y; rw [e]; exact fun z => by cases z
      · rw [keepB x z y]; exact hx
    · have q := some_gr gB (x := x) (by rw [hideL_out z]; exact hx)
      rw [hideL_out z] at q
      exact q
theorem Rel.my (R : Rel c φ as σ H env) {i : Nat} {fl : Fl} {d : Dt} (h : env[i]? = some (some (fl, d))) (hfm : fl ≠ .sh ∧ fl ≠ .ml ∧ fl ≠ .mr) : ∃ a o, σ[i]? = some (some (.ref a)) ∧ a ∈ as ∧ H a = some o ∧ Con c (hideL H as) o d := by
  obtain ⟨v, s, k⟩ := R.slot i fl d h
  cases fl with
  | sh => exact absurd rfl hfm.1
  | ow => obtain ⟨a, o, rfl, h2, h3, h4, h5⟩ := k; exact ⟨a, o, s, h2, h4, h5⟩
  | io => obtain ⟨a, o, rfl, h2, h3, h4, h5⟩ := k; exact ⟨a, o, s, R.sub a h3, h4, h5⟩
  | ml => exact absurd rfl hfm.2.1
  | mr => exact absurd rfl hfm.2.2
end
end Pm
set_option maxHeartbeats 4000000
namespace Pm
open PySem PySem.Spec PyProof.Rows L2 GxR GX
variable [LamTab]
def fLoop (p : Dt → Ev → Option Ev) (m : Sv) : List Dt → Ev → Mo Fw
  | [], env => .ok (.nx env)
  | d :: ds, env => (Mo.of (p d env)).bind fun e => (m e).bind fun fw => match fw with
    | .nx e' => fLoop p m ds e'
    | .ct e' => fLoop p m ds e'
    | .bk e' => .ok (.nx e')
    | .rt r e' => .ok (.rt r e')
def mFor (fi : Ev → Mo Wv) (p : Dt → Ev → Option Ev) (m : Sv) : Sv := fun env => (fi env).bind fun w => if w.1 = .al then .no else fLoop p m w.2 env
section
variable {c : Ct} {X : Cx} {E : XK} {m : Sv} {pos : Pos} {e tg it : Expr} {body : List Stmt} {φ : Fx} {as : List Addr} {σ : L2.St} {H H1 : Hp} {env : Ev}
/-- what is wanted of an end -/
structure Res (c : Ct) (E : XK) (φ : Fx) (as : List Addr) (H : Hp) (D : Ends) (r : Mo Fw) : Prop where
  ok : ∀ fw, r = .ok fw → FwOk c φ as H D fw
  ex : ∀ k n, r = .ex k n → ExOk c φ as H E k n
  no : r ≠ .no
theorem Ts.ofRes {t : Ends → Prop} {r : Mo Fw} (h : ∀ D, Res c E φ as H D r → t D) : Ts c E φ as H t r := by
  refine ⟨fun fw e D q => h D ?_, fun k n e q D => h D ?_⟩
  · subst e
    exact ⟨fun fw' e' => (by cases e'; exact q), fun k n e' => (by cases e'), by simp⟩
  · subst e
    exact ⟨fun fw' e' => (by cases e'), fun k' n' e' => (by cases e'; exact q), by simp⟩
theorem Res.later {as1 : List Addr} {D : Ends} {r : Mo Fw} (g : Gr (hideL H as) (hideL H1 as1)) (q : Res c E φ as H D r) : Res c E φ as1 H1 D r := ⟨fun fw e => (q.ok fw e).later g, fun k n e => (q.ex k n e).later g, q.no⟩
theorem rf_for {wi : L2.TI} {g : TG} {tb : TS} {fi : Ev → Mo Wv} {p : Dt → Ev → Option Ev} {sl : List Nat} (hi : RfI c E wi fi) (hg : RfG c g p sl) (hb : RfS c E tb m) : RfS c E (tFor wi g tb) (mFor fi p m) := fun φ as σ H env R =>
  (hi φ as σ H env R).st R fun J H1 w _ g1 wk => by
    by_cases hal : w.1 = .al
    · rw [if_pos hal]; exact .no
    · rw [if_neg hal]
      have ws := wk.2 hal
      refine .ofRes fun D q => ?_
      refine ⟨fun i n σ H => n = w.2.length - i ∧ i ≤ w.2.length ∧ ∃ as' env', Rel c φ as' σ H env' ∧ Gr (hideL H1 as) (hideL H as') ∧ fLoop p m (w.2.drop i) env' = fLoop p m w.2 env, ⟨w.2.length, by simp, Nat.zero_le _, as, env, R.gr g1, .refl _, rfl⟩, ?_⟩
      rintro i n σ2 H2 ⟨rfl, hi', as', env', R2, g2, e2⟩
      have wa := ws as' H2 R2.hid g2
      have q2 := q.later g2
      by_cases hlt : i < w.2.length
      · refine .inr ⟨wa.go i hlt, fun σ' H' => ∃ as'' env'', Rel c φ as'' σ' H' env'' ∧ Gr (hideL H1 as) (hideL H' as'') ∧ fLoop p m (w.2.drop (i + 1)) env'' = fLoop p m w.2 env, fun σ' H' pp => ⟨_, ?_, rfl, hlt, pp⟩, fun x H3 y => ?_⟩
        · omega
        · have ed := List.getElem?_eq_getElem hlt
          rw [List.drop_eq_getElem_cons hlt] at e2
          generalize hdd : w.2[i] = d at ed e2
          obtain ⟨g3, rx⟩ := wa.yld i d x H3 ed y
          have R3 := R2.gr g3
          have g23 := g2.trans (g3.hide R2.hid)
          simp only [fLoop] at e2
          cases ep : p d env' with
          | none => rw [ep] at e2; exact absurd e2.symm q.no
          | some env1 =>
            rw [ep] at e2
            simp only [Mo.of_some, Mo.bind_ok] at e2
            refine hg φ as' σ2 H3 env' x d env1 R3 rx ep _ fun σ3 R4 _ _ => ?_
            have T := hb φ as' σ3 H3 env1 R4
            cases em : m env1 with
            | no => rw [em] at e2; exact absurd e2.symm q.no
            | ex k n =>
              rw [em] at e2
              exact T.ex k n em ((q.later g23).ex k n e2.symm) _
            | ok fw =>
              rw [em] at e2
              simp only [Mo.bind_ok] at e2
              refine T.ok fw em _ ?_
              cases fw with
              | nx e' => exact fun as'' σ' H' g4 R5 => ⟨as'', e', R5, g23.trans g4, e2⟩
              | ct e' => exact fun as'' σ' H' g4 R5 => ⟨as'', e', R5, g23.trans g4, e2⟩
              | bk e' => exact (q.later g23).ok (.nx e') e2.symm
              | rt r e' => exact (q.later g23).ok (.rt r e') e2.symm
      · have ei : i = w.2.length := by omega
        subst ei
        rw [List.drop_of_length_le (Nat.le_refl _)] at e2
        exact .inl ⟨wa.stop, q2.ok _ e2.symm as' σ2 H2 (.refl _) R2⟩
theorem ds_for {fi : Ev → Mo Wv} {p : Dt → Ev → Option Ev} {sl : List Nat} (po : PassesOwn (model X.prog X.w) X.A X.env X.xe) (hc : X.calm = true) (hi : DI c X E tg it fi) (hg : DG c X tg p sl) (hb : DSs c X E body m)
    (hs : ∀ x, foldedSetIterable it X.env x = pure x := by intro _; rfl) : DS c X E (.For tg it body [] pos) (mFor fi p m) := by
  obtain ⟨wi, pi, ri⟩ := hi
  obtain ⟨g, pg, rg⟩ := hg
  obtain ⟨tb, pb, rb⟩ := hb
  exact ⟨_, ps_for po hc pi pg pb hs, rf_for ri rg rb⟩
def wLoop (p : Ev → Mo Bool) (m : Sv) : Nat → Ev → Mo Fw
  | 0, _ => .no
  | n + 1, env => (p env).bind fun k => if k = true then (m env).bind fun fw => match fw with
      | .nx e' => wLoop p m n e'
      | .ct e' => wLoop p m n e'
      | .bk e' => .ok (.nx e')
      | .rt r e' => .ok (.rt r e')
    else .ok (.nx env)
def fuelW : Nat := 1000000
def mWhile (p : Ev → Mo Bool) (m : Sv) : Sv := fun env => wLoop p m fuelW env
theorem rf_while {tc : TT} {tb : TS} {p : Ev → Mo Bool} (hp : RfT c E tc p) (hb : RfS c E tb m) : RfS c E (tWhile tc tb) (mWhile p m) := fun φ as σ H env R => .ofRes fun D q => by
  refine ⟨fun n σ H2 => ∃ as' env', Rel c φ as' σ H2 env' ∧ Gr (hideL H as) (hideL H2 as') ∧ wLoop p m n env' = wLoop p m fuelW env, ⟨fuelW, as, env, R, .refl _, rfl⟩, ?_⟩
  rintro n σ2 H2 ⟨as', env', R2, g2, e2⟩
  cases n with
  | zero => exact absurd e2.symm q.no
  | succ n =>
    simp only [wLoop] at e2
    have T := hp φ as' σ2 H2 env' R2
    cases ep : p env' with
    | no => rw [ep] at e2; exact absurd e2.symm q.no
    | ex k n' =>
      rw [ep] at e2
      exact T.ex k n' ep (((q.later g2).ex k n' e2.symm).of R2) _
    | ok b =>
      rw [ep] at e2
      simp only [Mo.bind_ok] at e2
      refine T.ok b ep _ fun b' H3 g3 eb => ?_
      subst eb
      have R3 := R2.gr g3
      have g23 := g2.trans (g3.hide R2.hid)
      cases b' with
      | true =>
        rw [if_pos rfl] at e2 ⊢
        refine ⟨fun σ' H' => ∃ as'' env'', Rel c φ as'' σ' H' env'' ∧ Gr (hideL H as) (hideL H' as'') ∧ wLoop p m n env'' = wLoop p m fuelW env, fun σ' H' pp => ⟨n, Nat.lt_succ_self _, pp⟩, ?_⟩
        have T := hb φ as' σ2 H3 env' R3
        cases em : m env' with
        | no => rw [em] at e2; exact absurd e2.symm q.no
        | ex k n' =>
          rw [em] at e2
          exact T.ex k n' em ((q.later g23).ex k n' e2.symm) _
        | ok fw =>
          rw [em] at e2
          simp only [Mo.bind_ok] at e2
          refine T.ok fw em _ ?_
          cases fw with
          | nx e' => exact fun as'' σ' H' g4 R5 => ⟨as'', e', R5, g23.trans g4, e2⟩
          | ct e' => exact fun as'' σ' H' g4 R5 => ⟨as'', e', R5, g23.trans g4, e2⟩
          | bk e' => exact (q.later g23).ok (.nx e') e2.symm
          | rt r e' => exact (q.later g23).ok (.rt r e') e2.symm
      | false =>
        rw [if_neg (by simp)] at e2 ⊢
        exact (q.later g23).ok (.nx env') e2.symm as' σ2 H3 (.refl _) R3
theorem ds_while {p : Ev → Mo Bool} (po : PassesOwn (model X.prog X.w) X.A X.env X.xe) (hc : DT c X E e p) (hb : DSs c X E body m) : DS c X E (.While e body [] pos) (mWhile p m) := by
  obtain ⟨t, pt, rt⟩ := hc
  obtain ⟨tb, pb, rb⟩ := hb
  exact ⟨_, ps_while po pt pb, rf_while rt rb⟩
end
def startE (n : Nat) (ds : List Dt) : Ev := ds.map (fun d => some (.sh, d)) ++ List.replicate (n - ds.length) none
def endM : Fw → Mo Rv
  | .nx _ => .ok (.sh, .non)
  | .rt r _ => .ok r
  | _ => .no
def runMo (n : Nat) (m : Sv) (ds : List Dt) : Mo Rv := (m (startE n ds)).bind endM
abbrev XF (c : Ct) (N : List Str) (x : Str) (sc : Scope) (f cd : Addr) (A : Around) (outer : List Env) (s : Shared) (H : Hp) (E : XK) : Cx := cxOf (CX c.P c.w) c.P c.w c.K c.mg c.base N x sc f (.ref cd) A outer s H E
section
variable {c : Ct} {N : List Str} {x : Str} {sc : Scope} {f cd : Addr} {A : Around} {outer : List Env} {s : Shared} {H : Hp} {E : XK}
theorem xtk : Takes (XF c N x sc f cd A outer s H E) (fun u d _ H => E u d H) := takes_of rfl rfl rfl rfl
theorem xpx : Px c (XF c N x sc f cd A outer s H E) E := passes_call (X := XF c N x sc f cd A outer s H E) xtk fun _ _ _ _ h => h
theorem xpo : PassesOwn (model c.P c.w) (XF c N x sc f cd A outer s H E).A (XF c N x sc f cd A outer s H E).env (XF c N x sc f cd A outer s H E).xe := passes_of (X := XF c N x sc f cd A outer s H E) rfl
theorem startE_get {n : Nat} {ds : List Dt} {i : Nat} {fl : Fl} {d : Dt} (h : (startE n ds)[i]? = some (some (fl, d))) : fl = .sh ∧ ds[i]? = some d := by
  unfold startE at h
  rw [List.getElem?_append] at h
  split at h
  · rw [List.getElem?_map] at h
    cases q : ds[i]? with
    | none => rw [q] at h; cases h
    | some d' => rw [q] at h; cases h; exact ⟨rfl, rfl⟩
  · rw [List.getElem?_replicate] at h
    split at h <;> cases h
theorem rel_start {as : List Addr} {vs : List V} {ds : List Dt} (hl : vs.length ≤ N.length) (hd : Hid as H) (r : RepAll c (hideL H as) vs ds) (t : Tabs c.ts H) : Rel c ⟨H, as, [], [], [], []⟩ as (start N vs) H (startE N.length ds) := by
  refine ⟨?_, hd, fun a ha => ha, .refl _, fun P hP => ?_, fun a ha _ _ => rfl, fun i fl d e => ?_, fun i j d e ne q1 q2 => ?_, ⟨.nil, .nil⟩, (fun a ha => by cases ha), .nil fun i d e => by cases (startE_get e).1⟩
  · unfold L2.start startE
    simp only [List.length_append, List.length_map, List.length_replicate, r.length]
  · obtain ⟨ps, hp, ht, hg⟩ := t P hP
    refine ⟨ps, ?_, ⟨ht.1, nl_hideL hd ht.2⟩, fun pos cv e => goodC_hideL hd (hg pos cv e)⟩
    rw [hideL_out fun z => ?_]
    · exact hp
    · obtain ⟨o, e, m⟩ := hd P z
      rw [hp] at e; cases e
      exact m.tbl _ rfl
  · obtain ⟨rfl, h⟩ := startE_get e
    obtain ⟨v, h1, h2⟩ := r.getD h
    refine ⟨v, ?_, h2⟩
    unfold L2.start
    rw [List.getElem?_append_left (by rw [List.length_map]; exact (List.getElem?_eq_some_iff.mp h1).1), List.getElem?_map, h1]
    rfl
  · cases (startE_get q1).1
end
theorem Rel.whole {c : Ct} {H : Hp} {as as' : List Addr} {σ : L2.St} {H' : Hp} {env : Ev} (hd : Hid as H) (R : Rel c ⟨H, as, [], [], [], []⟩ as' σ H' env) : Gr H H' := by
  refine Gr.whole hd (fun a ha => R.keep a ha (by simp) (by simp)) (R.base.trans (hideL_mono H' R.sub).gr)
theorem body_ok {c : Ct} {N ps : List Str} {E : XK} {Q : VK} {m : Sv} {t : TS} {H : Hp} {vs : List V} (hl : ps.length ≤ N.length) (h : RfS c E t m) (sp : spF c ps.length (runMo N.length m) vs H Q E) : t { nx := fun _ H' => Q .non H', rt := Q } (start N vs) H := by
  obtain ⟨as, ds, lv, hd, r, tb, q⟩ := sp
  have R := rel_start (N := N) (by rw [lv]; exact hl) hd r tb
  have T := h ⟨H, as, [], [], [], []⟩ as (start N vs) H _ R
  rcases q with ⟨rv, e, q⟩ | ⟨k, n, e, q⟩
  · unfold runMo at e
    obtain ⟨fw, e1, e2⟩ := Mo.bind_eq_ok e
    refine T.ok fw e1 _ ?_
    cases fw with
    | nx e' =>
      cases e2
      exact fun as' σ' H' g R' => q .non H' (R'.whole hd) .non
    | bk e' => cases e2
    | ct e' => cases e2
    | rt r e' =>
      cases e2
      intro as' σ' H' v g R' rr
      refine q v H' (R'.whole hd) ?_
      obtain ⟨k, d⟩ := rv
      cases k with
      | nw => exact rr
      | sh => exact rr
      | al => exact rr.elim
  · unfold runMo at e
    rcases Mo.bind_eq_ex e with e1 | ⟨fw, e1, e2⟩
    · exact T.ex k n e1 (fun as' σ' H' e' u d g R' xx => q H' u d (R'.whole hd) xx) _
    · cases fw <;> cases e2
/-- a def without generator expressions -/
theorem fd_of {c : Ct} {x : Str} {st : Stmt} {N ps : List Str} {k : Nat} {m : Sv} (D : Df c x st) (S : FnScope N ps (defScope st)) (hl : ps.length ≤ N.length)
    (hb : ∀ (kV doc pm : Value) (an : Option Addr) (cdv ct : Value) (us : List Value), us.length = ps.length → bindArgs (PySem.W.fnOf x x (defArgs st) (defBody st) (defScope st) .none kV doc pm an cdv ct) ⟨us, []⟩ = pure (ps.zip us))
    (hbody : ∀ (f cd : Addr) (A : Around) (outer : List Env) (s : Shared) (H : Hp) (E : XK), Room k (A.deeper (envOfC x (defScope st) s.heap.objs.size f (.ref cd))) → DSs c (XF c N x (defScope st) f cd A outer s H E) E (defBody st) m) : FD c x (k + 1) ps (runMo N.length m) := by
  obtain ⟨f, fd, cd, ⟨oc, od, dV, kV, doc, pm, an, ct, osl, rfl, lk, hcd, hD, _⟩, kp, hm⟩ := D
  have e : dV = .none := by
    rcases hD with ⟨_, e⟩ | ⟨e, _⟩
    · exact e
    · exact absurd rfl e
  subst e
  refine ⟨f, _, fn_of lk hcd S (fun vs H Q E h => ?_) fun A outer s H vs Q E hr hsp => ?_, hm, kp, .all (hb kV doc pm an (.ref cd) ct)⟩
  · obtain ⟨_, _, l, _⟩ := h; exact l
  · obtain ⟨t, p, r⟩ := hbody f cd A outer s H E hr
    exact ⟨t, p, body_ok hl r hsp⟩
/-- a def with generator expressions -/
theorem fd_ofT {c : Ct} {x : Str} {st : Stmt} {N ps : List Str} {k : Nat} {m : Sv} (D : Tf c x st) (S : FnScope N ps (defScope st)) (hl : ps.length ≤ N.length)
    (hb : ∀ (kV doc pm : Value) (an : Option Addr) (cdv ct : Value) (us : List Value), us.length = ps.length → bindArgs (PySem.W.fnOf x x (defArgs st) (defBody st) (defScope st) .none kV doc pm an cdv ct) ⟨us, []⟩ = pure (ps.zip us))
    (hbody : ∀ (f cd tb : Addr) (A : Around) (outer : List Env) (s : Shared) (H : Hp) (E : XK), TabB c.base c.mg cd tb → tb ∈ c.ts → Room k (A.deeper (envOfC x (defScope st) s.heap.objs.size f (.ref cd))) → DSs c (XF c N x (defScope st) f cd A outer s H E) E (defBody st) m) : FD c x (k + 1) ps (runMo N.length m) := by
  obtain ⟨f, fd, cd, tb, ⟨⟨oc, od, dV, kV, doc, pm, an, ct, osl, rfl, lk, hcd, hD, _⟩, kp, hm⟩, TB, hm2⟩ := D
  have e : dV = .none := by
    rcases hD with ⟨_, e⟩ | ⟨e, _⟩
    · exact e
    · exact absurd rfl e
  subst e
  refine ⟨f, _, fn_of lk hcd S (fun vs H Q E h => ?_) fun A outer s H vs Q E hr hsp => ?_, hm, kp, .all (hb kV doc pm an (.ref cd) ct)⟩
  · obtain ⟨_, _, l, _⟩ := h; exact l
  · obtain ⟨t, p, r⟩ := hbody f cd tb A outer s H E TB hm2 hr
    exact ⟨t, p, body_ok hl r hsp⟩
end Pm
set_option maxHeartbeats 4000000
namespace Pm
open PySem PySem.Spec PyProof.Rows L2 GxR GX
variable [LamTab]
open AutoSeq1 in
theorem ext_tup (l : Addr) (items : Array Value) (n : Nat) (b : Addr) (items2 : Array Value) (n2 : Nat) (dc : Option Addr) (sl : Array (Option Value)) (hs0 : ¬(!items.isEmpty && Builtin.List.listTooLong (items.size + items2.size)) = true) (hs1 : items.size ≤ sizeLine) (hs2 : items.size + items2.size ≤ sizeLine + 1) :
    Meets (Builtin.«list.extend» ⟨[.ref l, .ref b], []⟩) (fun _ R s => s.heap.get? l = some { cls := .type "list", dict := none, data := .seq items n, slots := #[] } ∧ s.heap.get? b = some { cls := .type "tuple", dict := dc, data := .seq items2 n2, slots := sl } ∧ R (.ok (.ret Value.none)) { s with heap := s.heap.update l (Obj.mapSeq fun x => x ++ items2), toks := s.toks }) :=
  .of_wp fun prog w A R s h => by
    obtain ⟨hp, g, d, tk, os⟩ := s
    obtain ⟨hl, hb, h⟩ := h
    have f1 := idx_int; have f2 := AutoSeq1.sub_tuple_tuple; have f3 := AutoSeq1.sub_list_list; have f4 := AutoSeq1.sub_tuple_list; have f5 := AutoSeq1.sub_list_tuple
    have big : (items ++ items2).size ≤ sizeLine + 1 := by rw [Array.size_append]; exact hs2
    wp_walk using (wpAny_updateSeq hl rfl (hz := hs1) (_hz' := big)), wpAny_loadPart' hl, wpAny_loadPart' hb
    exact ⟨_, rfl, h⟩
section
variable {X : Cx}
def rExtendT (K : PySem.W.Frag) : V → List V → Hp → VK → Prop := fun x vs H Q => ∃ l b xs zs, x = .ref l ∧ vs = [.ref b] ∧ H l = some (.lst xs) ∧ SqT K H b zs ∧ xs.length + zs.length ≤ sizeLine ∧ Q .non (upd H l (.lst (xs ++ zs)))
theorem mt_extendT : MtM X "list.extend" (rExtendT X.K) := by
  intro pins s σ H x vs v us Q I rx rv h
  obtain ⟨l, b, xs, zs, rfl, rfl, hH, hB, hz, q⟩ := h
  cases rx
  obtain ⟨u, rfl, ru⟩ := rv.one
  cases ru
  obtain ⟨z, its, n, r, hl, e⟩ := I.lstM hH
  obtain ⟨its2, r2, hT, z2⟩ := I.tuple hB
  obtain ⟨⟨ocls, odict, odata, oslots⟩, eb, cb, n2, db⟩ := hT
  simp only at cb db
  subst cb db
  have h2 := r2.length
  have sum : its.toArray.size + its2.toArray.size ≤ sizeLine := by rw [List.size_toArray, List.size_toArray]; omega
  have door : ¬ (!its.toArray.isEmpty && Builtin.List.listTooLong (its.toArray.size + its2.toArray.size)) = true := by
    rw [notLongL sum, Bool.and_false]
    exact Bool.false_ne_true
  refine call_meets F.slot_list_extend ⟨_, e, rfl⟩ F.entry_list_extend (F.args_list_extend_2 _ _)
    (ext_tup l its.toArray n b its2.toArray n2 odict oslots door (by rw [List.size_toArray]; omega) (by omega)) ⟨e, eb, ?_⟩
  refine ⟨.non, _, I.lset (its' := its ++ its2) hH e (by simp) (r.append r2) ?_, rfl, q⟩
  rw [List.length_append]
  omega
end
end Pm
set_option maxHeartbeats 4000000
namespace Pm
open PySem PySem.Spec PyProof.Rows L2 GxR GX
variable [LamTab]
section
variable {c : Ct} {X : Cx} {E : XK} {m : Sv} {pos apos cpos p p' : Pos} {e : Expr} {f g : Ev → Mo Rv} {φ : Fx} {as : List Addr} {σ : L2.St} {H H1 : Hp} {env : Ev} {i j : Nat} {x y : Str}
theorem sx_upd {a : Addr} {o : HO} : Sx a H (upd H a o) := (Sx.refl a H).upd
theorem hide_upd_in {a : Addr} {o : HO} (ha : a ∈ as) : hideL (upd H a o) as = hideL H as := by
  funext b
  by_cases h1 : b ∈ as
  · rw [hideL_in h1, hideL_in h1]
  · rw [hideL_out h1, hideL_out h1, upd_ne (fun z => h1 (by rw [z]; exact ha))]
/-- the slot's thing is o now -/
theorem Rel.upd (R : Rel c φ as σ H env) {fl : Fl} {d d1 : Dt} {a : Addr} {o : HO} (hi : env[i]? = some (some (fl, d))) (hfl : fl ≠ .sh ∧ fl ≠ .ml ∧ fl ≠ .mr) (s : σ[i]? = some (some (.ref a))) (ha : a ∈ as) (con : Con c (hideL H as) o d1) :
    Gr (hideL H as) (hideL (L2.upd H a o) as) ∧ Rel c φ as σ (L2.upd H a o) (env.set i (some (fl, d1))) :=
  R.write hi hfl s sx_upd upd_same (by rw [hide_upd_in ha]; exact con)
/-- a slot's own list -/
def myL (i : Nat) (env : Ev) : Option (Fl × List Dt) := match env[i]? with
  | some (some (.ow, .lst ds)) => some (.ow, ds)
  | some (some (.io, .lst ds)) => some (.io, ds)
  | _ => none
theorem Rel.myL (R : Rel c φ as σ H env) {fl : Fl} {ds : List Dt} (h : Pm.myL i env = some (fl, ds)) : env[i]? = some (some (fl, .lst ds)) ∧ (fl ≠ .sh ∧ fl ≠ .ml ∧ fl ≠ .mr) ∧ ∃ a vs, σ[i]? = some (some (.ref a)) ∧ a ∈ as ∧ H a = some (.lst vs) ∧ RepAll c (hideL H as) vs ds := by
  have key : env[i]? = some (some (fl, .lst ds)) ∧ (fl ≠ .sh ∧ fl ≠ .ml ∧ fl ≠ .mr) := by
    unfold Pm.myL at h
    split at h
    · rename_i ds' e; cases h; exact ⟨e, by simp⟩
    · rename_i ds' e; cases h; exact ⟨e, by simp⟩
    · cases h
  refine ⟨key.1, key.2, ?_⟩
  obtain ⟨a, o, s, h2, h3, h4⟩ := R.my key.1 key.2
  cases h4 with
  | lst r => exact ⟨a, _, s, h2, h3, r⟩
/-- xs.append(e) -/
def mAppend (i : Nat) (f : Ev → Mo Rv) : Sv := fun env => match myL i env with
  | some (fl, ds) => (f env).bind fun rv => if keepK rv = true ∧ ds.length < 1000000 then .ok (.nx (env.set i (some (fl, .lst (ds ++ [rv.2]))))) else .no
  | none => .no
theorem Ts.ite {t : Ends → Prop} {P : Prop} [Decidable P] {r : Mo Fw} (h : P → Ts c E φ as H t r) : Ts c E φ as H t (if P then r else .no) := by
  by_cases hp : P
  · rw [if_pos hp]; exact h hp
  · rw [if_neg hp]; exact .no
theorem Ts.nx {t : Ends → Prop} {env' : Ev} (h : ∀ D : Ends, (∀ as' σ' H', Gr (hideL H as) (hideL H' as') → Rel c φ as' σ' H' env' → D.nx σ' H') → t D) : Ts c E φ as H t (.ok (.nx env')) := ⟨fun fw e D q => by cases e; exact h D q, fun k n e => by cases e⟩
theorem ds_append (hN : X.N[i]? = some x) (hv : Vis X.env.scope x) (he : DE c X E e f) (hK : X.K = c.K := by rfl) (hd : (x == ("__debug__" : Str)) = false := by decide) (hcd : (x == ("__classdict__" : Str)) = false := by decide)
    (hbase : attributeBase (.Name x p) "append" X.env (eval (.Name x p) X.env) = eval (.Name x p) X.env := by rfl)
    (hfew : ((backTo cpos (starEach [e] X.env)).all (fun x => !x.1) && (backToKw cpos (keywordEach [] X.env)).all (fun x => x.1.isSome)
      && decide (([e] : List Expr).length + ([] : List Keyword).length + (if ([] : List Keyword).isEmpty then 0 else 1) < 30)) = true := by rfl)
    (hline : (apos.endLine == cpos.line) = true := by rfl) (hs : starEach [e] X.env = (false, eval e X.env) :: starEach [] X.env := by rfl) (hplain : (backTo cpos (starEach [] X.env)).any (·.1) = false := by rfl)
    (hsw : swapsWith (.Call (.Attribute (.Name x p) "append" apos) [e] [] cpos) none pos.line X.env = pure false := by rfl) : DS c X E (.Expr (.Call (.Attribute (.Name x p) "append" apos) [e] [] cpos) pos) (mAppend i f) := by
  obtain ⟨t, pe, r⟩ := he
  refine ⟨_, ps_expr (pe_bm PySem.F.plainAttrs_list PySem.F.slot_list_append PySem.F.type_list_append mt_append (pe_var hN hv hd hcd) (pa_cons pe pa_nil hs) hbase hfew hline hs hplain) hsw, fun φ as σ H env R => ?_⟩
  unfold mAppend
  cases my : myL i env with
  | none => exact .no
  | some z =>
    obtain ⟨fl, ds⟩ := z
    obtain ⟨k1, k2, a, vs, s, ha, hH, ra⟩ := R.myL my
    have T := (r φ as σ H env R).st R (u := fun y H1 D => rAppend (.ref a) [y] H1 fun _ H2 => D.nx σ H2) (f := fun rv => if keepK rv = true ∧ ds.length < 1000000 then .ok (.nx (env.set i (some (fl, .lst (ds ++ [rv.2]))))) else .no) fun v H1 rv _ g1 r1 => .ite fun hl => .nx fun D q => ?_
    · refine ⟨fun fw e D q => ⟨_, s, .inl ⟨rfl, _, .of hH⟩, T.ok fw e D q⟩, fun k n e q D => ⟨_, s, .inl ⟨rfl, _, .of hH⟩, T.ex k n e q D⟩⟩
    · have R1 := R.gr g1
      have ra1 := ra.gr (g1.hide R.hid)
      obtain ⟨gg, R2⟩ := R1.upd (d1 := .lst (ds ++ [rv.2])) k1 k2 s ha (.lst (ra1.snoc (r1.keep R.hid g1 hl.1)))
      exact ⟨a, vs, v, rfl, rfl, g1.lst hH, small6' (by rw [ra.length]; exact hl.2), q as σ _ gg R2⟩
/-- xs.extend(e), e a list or a tuple -/
def mExtend (i : Nat) (f : Ev → Mo Rv) : Sv := fun env => match myL i env with
  | some (fl, ds) => (f env).bind fun rv => match rv.2 with
    | .lst es => if ds.length + es.length ≤ 1000000 then .ok (.nx (env.set i (some (fl, .lst (ds ++ es))))) else .no
    | .tup es => if ds.length + es.length ≤ 1000000 then .ok (.nx (env.set i (some (fl, .lst (ds ++ es))))) else .no
    | _ => .no
  | none => .no
theorem ds_extend (hN : X.N[i]? = some x) (hv : Vis X.env.scope x) (he : DE c X E e f) (hK : X.K = c.K := by rfl) (hd : (x == ("__debug__" : Str)) = false := by decide) (hcd : (x == ("__classdict__" : Str)) = false := by decide)
    (hbase : attributeBase (.Name x p) "extend" X.env (eval (.Name x p) X.env) = eval (.Name x p) X.env := by rfl)
    (hfew : ((backTo cpos (starEach [e] X.env)).all (fun x => !x.1) && (backToKw cpos (keywordEach [] X.env)).all (fun x => x.1.isSome)
      && decide (([e] : List Expr).length + ([] : List Keyword).length + (if ([] : List Keyword).isEmpty then 0 else 1) < 30)) = true := by rfl)
    (hline : (apos.endLine == cpos.line) = true := by rfl) (hs : starEach [e] X.env = (false, eval e X.env) :: starEach [] X.env := by rfl) (hplain : (backTo cpos (starEach [] X.env)).any (·.1) = false := by rfl)
    (hsw : swapsWith (.Call (.Attribute (.Name x p) "extend" apos) [e] [] cpos) none pos.line X.env = pure false := by rfl) : DS c X E (.Expr (.Call (.Attribute (.Name x p) "extend" apos) [e] [] cpos) pos) (mExtend i f) := by
  obtain ⟨t, pe, r⟩ := he
  refine ⟨_, ps_expr (pe_bm PySem.F.plainAttrs_list PySem.F.slot_list_extend PySem.F.type_list_extend (MtR.or mt_extend mt_extendT) (pe_var hN hv hd hcd) (pa_cons pe pa_nil hs) hbase hfew hline hs hplain) hsw, fun φ as σ H env R => ?_⟩
  unfold mExtend
  cases my : myL i env with
  | none => exact .no
  | some z =>
    obtain ⟨fl, ds⟩ := z
    obtain ⟨k1, k2, a, vs, s, ha, hH, ra⟩ := R.myL my
    have T := (r φ as σ H env R).st R (u := fun y H1 D => rExtend (.ref a) [y] H1 (fun _ H2 => D.nx σ H2) ∨ rExtendT X.K (.ref a) [y] H1 fun _ H2 => D.nx σ H2) (f := fun rv => match rv.2 with
      | .lst es => if ds.length + es.length ≤ 1000000 then .ok (.nx (env.set i (some (fl, .lst (ds ++ es))))) else .no
      | .tup es => if ds.length + es.length ≤ 1000000 then .ok (.nx (env.set i (some (fl, .lst (ds ++ es))))) else .no
      | _ => .no) fun v H1 rv _ g1 r1 => ?_
    · refine ⟨fun fw e D q => ⟨_, s, .inl ⟨rfl, _, .of hH⟩, T.ok fw e D q⟩, fun k n e q D => ⟨_, s, .inl ⟨rfl, _, .of hH⟩, T.ex k n e q D⟩⟩
    · have R1 := R.gr g1
      have ra1 := ra.gr (g1.hide R.hid)
      have rc := r1.rc R.hid
      split
      · rename_i es he
        rw [he] at rc
        refine .ite fun hl => .nx fun D q => .inl ?_
        obtain ⟨b, ws, rfl, hb, rb⟩ := repC_lst rc
        obtain ⟨gg, R2⟩ := R1.upd (d1 := .lst (ds ++ es)) k1 k2 s ha (.lst (ra1.append rb))
        exact ⟨a, b, vs, ws, rfl, rfl, g1.lst hH, hb, by rw [ra.length, rb.length]; exact small6 hl, q as σ _ gg R2⟩
      · rename_i es he
        rw [he] at rc
        refine .ite fun hl => .nx fun D q => .inr ?_
        obtain ⟨b, ws, rfl, hb, rb⟩ := repC_tup rc
        obtain ⟨gg, R2⟩ := R1.upd (d1 := .lst (ds ++ es)) k1 k2 s ha (.lst (ra1.append rb))
        exact ⟨a, b, vs, ws, rfl, rfl, g1.lst hH, by rw [hK]; exact hb, by rw [ra.length, rb.length]; exact small6 hl, q as σ _ gg R2⟩
      · exact .no
theorem dgl_some {k : DK} : ∀ {ks : List DK} {vs : List V} {ds : List Dt}, RepAll c H vs ds → (dgl ks vs k).isSome = (dgl ks ds k).isSome
  | [], _, _, _ => by simp [dgl]
  | _ :: _, _, _, .nil => by simp [dgl]
  | k' :: ks, _, _, .cons a b => by
    simp only [dgl]
    by_cases h : k' = k
    · rw [if_pos h, if_pos h]; rfl
    · rw [if_neg h, if_neg h]; exact dgl_some b
end
end Pm
set_option maxHeartbeats 4000000
namespace Pm
open PySem PySem.Spec PyProof.Rows L2 GxR GX
variable [LamTab]
section
variable {c : Ct} {X : Cx} {E : XK} {pos p p2 q0 : Pos} {a b e : Expr} {f g : Ev → Mo Rv} {as : List Addr} {H : Hp} {fs : Ev → Mo (List Rv)}
theorem repcs1 {vs : List V} {d : Dt} (h : RepCs c as H vs [d]) : ∃ v, vs = [v] ∧ RepC c as H v d := by
  cases h with
  | cons a b => cases b; exact ⟨_, rfl, a⟩
theorem repcs2 {vs : List V} {d d' : Dt} (h : RepCs c as H vs [d, d']) : ∃ v w, vs = [v, w] ∧ RepC c as H v d ∧ RepC c as H w d' := by
  cases h with
  | cons a b =>
    obtain ⟨w, rfl, b'⟩ := repcs1 b
    exact ⟨_, w, rfl, a, b'⟩
def strsDt : List Dt → Option (List Str)
  | [] => some []
  | .str x :: ds => (strsDt ds).map (x :: ·)
  | _ :: _ => none
theorem strsD_ok : ∀ {ds : List Dt} {vs : List V} {xs : List Str}, RepAll c H vs ds → strsDt ds = some xs → vs = xs.map V.str ∧ ds = xs.map Dt.str
  | [], _, xs, .nil, e => by simp only [strsDt] at e; cases e; exact ⟨rfl, rfl⟩
  | d :: ds, _, xs, .cons a b, e => by
    cases d with
    | str x =>
      simp only [strsDt] at e
      obtain ⟨ys, e1, rfl⟩ := Option.map_eq_some_iff.mp e
      obtain ⟨h1, h2⟩ := strsD_ok b e1
      rw [rep_str a, h1, h2]
      exact ⟨rfl, rfl⟩
    | _ => simp [strsDt] at e
def lenD : List Dt → Option Rv
  | [.lst ds] => some (.sh, .int ds.length)
  | [.tup ds] => some (.sh, .int ds.length)
  | [.scr ns] => some (.sh, .int ns.length)
  | [.str z] => if z.length ≤ 1000000 then some (.sh, .int z.length) else none
  | [.dic ks _] => some (.sh, .int ks.length)
  | _ => none
theorem call_lenRd : CallR X (.builtin "len") (fun xs H Q => ∃ a kvs, xs = [V.ref a] ∧ Rd H a (.dK kvs) ∧ Q (.int kvs.length) H) := by
  intro pins s σ H xs us Q I r h
  obtain ⟨a, kvs, rfl, ha, q⟩ := h
  obtain ⟨u, rfl, ru⟩ := vals1 r
  cases ru
  exact d_len I ha fun t s' I' => ⟨.int kvs.length, H, I', ⟨t, rfl⟩, q⟩
theorem cd_len : CallD c (fun xs H Q => (∃ p ys, xs = [.ref p] ∧ (SqL c.K H p ys ∨ SqT c.K H p ys) ∧ Q (.int ys.length) H) ∨ (∃ z, xs = [.str z] ∧ z.length ≤ sizeLine ∧ Q (.int z.length) H) ∨ ∃ a kvs, xs = [V.ref a] ∧ Rd H a (.dK kvs) ∧ Q (.int kvs.length) H) lenD := fun as H vs ds rv hd r o Q q => by
  unfold lenD at o
  split at o
  · cases o
    obtain ⟨v, rfl, h⟩ := repcs1 r
    obtain ⟨a, vs, rfl, s, ra⟩ := repC_lst h
    exact .inl ⟨a, vs, rfl, .inl (.of s), by rw [ra.length]; exact q _ H (.refl _) (.int _)⟩
  · cases o
    obtain ⟨v, rfl, h⟩ := repcs1 r
    obtain ⟨a, vs, rfl, s, ra⟩ := repC_tup h
    exact .inl ⟨a, vs, rfl, .inr s, by rw [ra.length]; exact q _ H (.refl _) (.int _)⟩
  · cases o
    obtain ⟨v, rfl, h⟩ := repcs1 r
    obtain ⟨a, rfl, s⟩ := repC_scr h
    exact .inl ⟨a, _, rfl, .inl s, by rw [List.length_map]; exact q _ H (.refl _) (.int _)⟩
  · split at o
    · rename_i hl; cases o
      obtain ⟨v, rfl, h⟩ := repcs1 r
      exact .inr (.inl ⟨_, by rw [repC_str h], small6 hl, q _ H (.refl _) (.int _)⟩)
    · cases o
  · cases o
    obtain ⟨v, rfl, h⟩ := repcs1 r
    obtain ⟨a, vs, rfl, ⟨kvs, s, rfl, rfl⟩, ra⟩ := repC_dic h
    refine .inr (.inr ⟨a, kvs, rfl, s, ?_⟩)
    have := q (.int kvs.length) H (.refl _)
    rw [List.length_map] at this
    exact this (.int _)
  · cases o
theorem de_len (hm : c.mg "len" = none) (ha : DA c X E [a] fs) (hK : X.K = c.K := by rfl) (h4 : X.mg = c.mg := by rfl) (hg : Gl X "len" := by rfl) (he : starEach [a] X.env = (false, eval a X.env) :: starEach [] X.env := by rfl) : DE c X E (.Call (.Name "len" p) [a] [] pos) (eB lenD fs) :=
  de_callB (call_len_seq.or (call_len_str.or call_lenRd)) (by rw [hK]; exact cd_len) hm PySem.boot_len ha h4 hg (by decide) (by decide) he rfl
def tupleD : List Dt → Option Rv
  | [.lst ds] => some (.sh, .tup ds)
  | [.tup ds] => some (.sh, .tup ds)
  | _ => none
theorem cd_tuple : CallD c (fun xs H Q => ∃ p ys, xs = [.ref p] ∧ ((SqL c.K H p ys ∧ ∀ l, H l = none → Q (.ref l) (upd H l (.tup ys))) ∨ (SqT c.K H p ys ∧ Q (.ref p) H))) tupleD := fun as H vs ds rv hd r o Q q => by
  unfold tupleD at o
  split at o
  · cases o
    obtain ⟨v, rfl, h⟩ := repcs1 r
    obtain ⟨a, vs, rfl, s, ra⟩ := repC_lst h
    exact ⟨a, vs, rfl, .inl ⟨.of s, fun l nl => q _ _ (.new nl) (rv_tup hd nl ra)⟩⟩
  · cases o
    obtain ⟨v, rfl, h⟩ := repcs1 r
    rcases h with h | ⟨_, _, _, _, _, h⟩
    · cases h with
      | tup s r => exact ⟨_, _, rfl, .inr ⟨(hideL_le H as).gr.sqT s, q _ H (.refl _) (.tup s r)⟩⟩
    · cases h
  · cases o
theorem de_tuple (hm : c.mg "tuple" = none) (ha : DA c X E [a] fs) (hK : X.K = c.K := by rfl) (h4 : X.mg = c.mg := by rfl) (hg : Gl X "tuple" := by rfl) (he : starEach [a] X.env = (false, eval a X.env) :: starEach [] X.env := by rfl) : DE c X E (.Call (.Name "tuple" p) [a] [] pos) (eB tupleD fs) :=
  de_callTy call_tuple_of (by rw [hK]; exact cd_tuple) hm boot_tuple ha h4 hg (by decide) (by decide) he rfl
def flatDt : Dt → Bool
  | .non => true
  | .bl _ => true
  | .int _ => true
  | .str _ => true
  | _ => false
def eqF : Dt → Dt → Bool
  | .non, .non => true
  | .bl a, .bl b => a == b
  | .bl a, .int b => (if a then 1 else 0) == b
  | .int a, .bl b => a == (if b then 1 else 0)
  | .int a, .int b => a == b
  | .str a, .str b => a == b
  | _, _ => false
theorem flat_ok {v : V} {d : Dt} (r : Rep c H v d) (h : flatDt d = true) : flatV v = true := by
  cases r <;> first | rfl | cases h
theorem eqF_ok {v w : V} {d d' : Dt} (r : Rep c H v d) (s : Rep c H w d') (h : flatDt d = true) (h' : flatDt d' = true) : eqV v w = eqF d d' := by
  cases r <;> cases s <;> first | rfl | cases h | cases h'
theorem in_ok {v : V} {d : Dt} (s : Rep c H v d) (h : flatDt d = true) : ∀ {vs : List V} {ds : List Dt}, RepAll c H vs ds → ds.all flatDt = true → vs.all flatV = true ∧ inV v vs = ds.any fun y => eqF y d
  | _, _, .nil, _ => ⟨rfl, rfl⟩
  | _, _, .cons (d := d1) a b, e => by
    rw [List.all_cons, Bool.and_eq_true] at e
    obtain ⟨h1, h2⟩ := in_ok s h b e.2
    refine ⟨by rw [List.all_cons, flat_ok a e.1, h1]; rfl, ?_⟩
    unfold inV at h2 ⊢
    rw [List.any_cons, List.any_cons, h2, eqF_ok a s e.1 h]
def inFlat (d : Dt) (ds : List Dt) : Option Bool := if flatDt d = true ∧ ds.all flatDt = true then some (ds.any fun y => eqF y d) else none
def inDeep (d : Dt) (ds : List Dt) : Option Bool := match d.py, pyAll ds with
  | some p, some ps => if SeqAt.shaped p = true ∧ SeqAt.shaped (.list ps) = true then some (ps.any fun z => PyData.eqv z p) else none
  | _, _ => none
def inD : Dt → Dt → Option Bool
  | d, .lst ds => match inFlat d ds with
    | some b => some b
    | none => inDeep d ds
  | d, .tup ds => inFlat d ds
  | .str x, .str y => some (!(Builtin.Str.occurrences y x 0 y.length 1).isEmpty)
  | d, .dic ks ds => (keyD d).map fun k => (dgl ks ds (.k k)).isSome
  | _, _ => none
def rInDc (neg : Bool) : R2 := fun x y H Q => ∃ a o, y = .ref a ∧ DGet H a x o ∧ Q (.bl (neg != o.isSome)) H
theorem op_inDc (hu : X.A.units + 1 < cLine) : OpR X (compareOp .In) (rInDc false) := fun pins s σ H x y v u Q I rx ry h => by
  obtain ⟨a, o, rfl, g, q⟩ := h
  obtain rfl : u = Value.ref a := ry
  refine d_in hu I g rx fun s3 I3 => ⟨.bl o.isSome, H, I3, rfl, ?_⟩
  cases o <;> exact q
theorem op_notInDc (hu : X.A.units + 1 < cLine) : OpR X (compareOp .NotIn) (rInDc true) := fun pins s σ H x y v u Q I rx ry h => by
  obtain ⟨a, o, rfl, g, q⟩ := h
  obtain rfl : u = Value.ref a := ry
  refine d_notIn hu I g rx fun s3 I3 => ⟨.bl (!o.isSome), H, I3, rfl, ?_⟩
  cases o <;> exact q
theorem inD_ok {x y : V} {d d' : Dt} {k : Bool} (hx : RepC c as H x d) (hy : RepC c as H y d') (o : inD d d' = some k) :
    (∃ p xs, y = .ref p ∧ (SqL c.K H p xs ∨ SqT c.K H p xs) ∧ flatV x = true ∧ xs.all flatV = true ∧ inV x xs = k) ∨
    (∃ p ps, Dp c.K H x p ∧ Dp c.K H y (.list ps) ∧ SeqAt.shaped p = true ∧ SeqAt.shaped (.list ps) = true ∧ (ps.any fun z => PyData.eqv z p) = k) ∨
    (∃ i j, x = .str i ∧ y = .str j ∧ (!(Builtin.Str.occurrences j i 0 j.length 1).isEmpty) = k) ∨ ∃ a o, y = .ref a ∧ DGet H a x o ∧ o.isSome = k := by
  unfold inD at o
  split at o
  · rename_i ds
    split at o
    · rename_i b e1
      cases o
      unfold inFlat at e1
      split at e1
      · rename_i hf; cases e1
        obtain ⟨a, vs, rfl, s, r⟩ := repC_lst hy
        obtain ⟨h1, h2⟩ := in_ok hx.full hf.1 (r.gr (hideL_le H as).gr) hf.2
        exact .inl ⟨a, vs, rfl, .inl (.of s), flat_ok hx.full hf.1, h1, h2⟩
      · cases e1
    · unfold inDeep at o
      split at o
      · rename_i p ps e1 e2
        split at o
        · rename_i hs; cases o
          exact .inr (.inl ⟨p, ps, hx.full.dp e1, hy.full.dp (by simp [Dt.py, e2]), hs.1, hs.2, rfl⟩)
        · cases o
      · cases o
  · unfold inFlat at o
    split at o
    · rename_i hf; cases o
      obtain ⟨a, vs, rfl, s, r⟩ := repC_tup hy
      obtain ⟨h1, h2⟩ := in_ok hx.full hf.1 (r.gr (hideL_le H as).gr) hf.2
      exact .inl ⟨a, vs, rfl, .inr s, flat_ok hx.full hf.1, h1, h2⟩
    · cases o
  · cases o
    exact .inr (.inr (.inl ⟨_, _, repC_str hx, repC_str hy, rfl⟩))
  · obtain ⟨key, e1, rfl⟩ := Option.map_eq_some_iff.mp o
    obtain ⟨a, vs, rfl, s, r⟩ := repC_dic hy
    refine .inr (.inr (.inr ⟨a, _, rfl, ?_, dgl_some r⟩))
    rw [keyD_ok hx.full e1]
    exact dcAt_get s
  · cases o
theorem cm_in (hu : X.A.units + 65 < cLine) (hK : X.K = c.K := by rfl) : CmpR c X .In inD := ⟨_, op_in_seq.or ((op_inD hu).or (op_in_str.or (op_inDc (by omega)))), fun as H x y d e rv hd hx hy o Q q => by
  obtain ⟨k, ho, rfl⟩ := cmpD_of o
  rw [hK]
  rcases inD_ok hx hy ho with ⟨p, xs, h1, h2, h3, h4, rfl⟩ | ⟨p, ps, h1, h2, h3, h4, rfl⟩ | ⟨i, j, h1, h2, rfl⟩ | ⟨a, ov, h1, h2, rfl⟩
  · exact .inl ⟨p, xs, h1, h2, h3, h4, q _ H (.refl _) (.bl _)⟩
  · exact .inr (.inl ⟨p, ps, h1, h2, h3, h4, q _ H (.refl _) (.bl _)⟩)
  · exact .inr (.inr (.inl ⟨i, j, h1, h2, q _ H (.refl _) (.bl _)⟩))
  · exact .inr (.inr (.inr ⟨a, ov, h1, h2, by cases ov <;> exact q _ H (.refl _) (.bl _)⟩))⟩
def notInD (d e : Dt) : Option Bool := (inD d e).map (!·)
theorem cm_notIn (hu : X.A.units + 65 < cLine) (hK : X.K = c.K := by rfl) : CmpR c X .NotIn notInD := ⟨_, op_notIn_seq.or ((op_notInD hu).or (op_notIn_str.or (op_notInDc (by omega)))), fun as H x y d e rv hd hx hy o Q q => by
  obtain ⟨k, ho, rfl⟩ := cmpD_of o
  rw [hK]
  unfold notInD at ho
  obtain ⟨k, ho2, rfl⟩ := Option.map_eq_some_iff.mp ho
  rcases inD_ok hx hy ho2 with ⟨p, xs, h1, h2, h3, h4, rfl⟩ | ⟨p, ps, h1, h2, h3, h4, rfl⟩ | ⟨i, j, h1, h2, rfl⟩ | ⟨a, ov, h1, h2, rfl⟩
  · exact .inl ⟨p, xs, h1, h2, h3, h4, q _ H (.refl _) (.bl _)⟩
  · exact .inr (.inl ⟨p, ps, h1, h2, h3, h4, q _ H (.refl _) (.bl _)⟩)
  · exact .inr (.inr (.inl ⟨i, j, h1, h2, q _ H (.refl _) (.bl _)⟩))
  · exact .inr (.inr (.inr ⟨a, ov, h1, h2, by cases ov <;> exact q _ H (.refl _) (.bl _)⟩))⟩
end
end Pm
set_option maxHeartbeats 4000000
namespace Pm
open PySem PySem.Spec PyProof.Rows L2 GxR GX
variable [LamTab]
section
variable {c : Ct} {X : Cx} {E : XK} {pos p p2 q0 apos cpos : Pos} {a b e elt : Expr} {f g : Ev → Mo Rv} {as : List Addr} {H : Hp} {fs : Ev → Mo (List Rv)}
/-- what is never come to -/
def eNo : Ev → Mo Rv := fun _ => .no
theorem de_no : DE c X E e eNo := ⟨fun _ _ _ => False, ⟨fun _ _ _ _ _ _ h => h.elim⟩, fun φ as σ H env R => .no⟩
theorem RvRs.append {H0 : Hp} : ∀ {vs ws : List V} {rs ss : List Rv}, RvRs c as H0 H vs rs → RvRs c as H0 H ws ss → RvRs c as H0 H (vs ++ ws) (rs ++ ss)
  | _, _, _, _, .nil, h => h
  | _, _, _, _, .cons a b, h => .cons a (RvRs.append b h)
def maxD : List Dt → Option Rv
  | [.int i, .int j] => some (.sh, .int (if j > i then j else i))
  | _ => none
theorem de_max (hc : X.calm = true) (hm : c.mg "max" = none) (ha : DA c X E [a, b] fs) (h4 : X.mg = c.mg := by rfl) (hg : Gl X "max" := by rfl) (he : starEach [a, b] X.env = (false, eval a X.env) :: starEach [b] X.env := by rfl) (hpl : (backTo pos (starEach [b] X.env)).any (·.1) = false := by rfl) : DE c X E (.Call (.Name "max" p) [a, b] [] pos) (eB maxD fs) := by
  refine de_callB (call_max2 hc) (fun as H vs ds rv hd r o Q q => ?_) hm (by decide +kernel) ha h4 hg (by decide) (by decide) he hpl
  unfold maxD at o
  split at o
  · cases o
    obtain ⟨v, w, rfl, h1, h2⟩ := repcs2 r
    rw [repC_int h1, repC_int h2]
    exact ⟨_, _, rfl, q _ H (.refl _) (.int _)⟩
  · cases o
def eChain (o o' : Dt → Dt → Option Bool) (f g h : Ev → Mo Rv) : Ev → Mo Rv := fun env => (f env).bind fun x => (g env).bind fun y => (Mo.of (o x.2 y.2)).bind fun k => if k = true then (h env).bind fun z => Mo.of (cmpD o' y.2 z.2) else .ok (.sh, .bl false)
end
end Pm
set_option maxHeartbeats 4000000
set_option maxHeartbeats 4000000
namespace Pm
open PySem PySem.Spec PyProof.Rows L2 GxR GX
variable [LamTab]
section
variable {c : Ct} {X : Cx} {E : XK} {pos p p2 : Pos} {a b e : Expr} {f g h : Ev → Mo Rv} {φ : Fx} {as : List Addr} {σ : L2.St} {H H1 : Hp} {env : Ev} {fs : Ev → Mo (List Rv)}
/-- one more is hidden, in its slot or not -/
theorem Rel.hideNew {q : Addr} {o : HO} (R : Rel c φ as σ H env) (gg : Gr H H1) (n : H q = none) (e : H1 q = some o) (m : MutO o) : Gr (hideL H as) (hideL H1 (q :: as)) ∧ Rel c (φ.bans [q]) (q :: as) σ H1 env := by
  have hd := (R.hid.gr gg).cons e m
  have gB := gg.hideN hd n
  refine ⟨gB, R.len, hd, fun a ha => .tail _ (R.sub a ha), R.base.trans gB, R.tabs.gr gB, (R.gr gg).keep, fun j fl d' z => ?_, R.dj, R.ioN, R.ioM, ?_⟩
  · obtain ⟨v, e1, h⟩ := R.slot j fl d' z
    refine ⟨v, e1, ?_⟩
    cases fl with
    | sh => exact Rep.gr gB h
    | ow =>
      obtain ⟨a, o', rfl, h2, h3, h4, h5⟩ := h
      exact ⟨a, o', rfl, .tail _ h2, h3, gg.keep h4 h5.mut.noTbl, h5.gr gB⟩
    | io =>
      obtain ⟨a, o', rfl, h2, h3, h4, h5⟩ := h
      exact ⟨a, o', rfl, h2, h3, gg.keep h4 h5.mut.noTbl, h5.gr gB⟩
    | ml => trivial
    | mr =>
      obtain ⟨b, e2, m2⟩ := h
      exact ⟨b, e2, m2.gr gB⟩
  · obtain ⟨fq, k1, k2, k3, k4, k5⟩ := R.mls
    refine ⟨fq, fun i d e => ?_, k2, k3, fun x hx => ?_, k5⟩
    rotate_left
    · rcases List.mem_cons.mp hx with rfl | hx
      · rw [e]; exact fun z => by cases z
      · exact some_gr gg (k4 x hx)
    obtain ⟨a, s, mi, fo⟩ := k1 i d e
    refine ⟨a, s, mi.move (fun x hx => ?_) gB, fun x hx => ⟨.tail _ (fo x hx).1, (fo x hx).2.1, fun z => ?_⟩⟩
    · obtain ⟨o', e', m'⟩ := R.hid x (fo x hx).1
      rw [e']; exact gg.keep e' m'.noTbl
    · rcases List.mem_cons.mp z with rfl | z
      · obtain ⟨o', e', _⟩ := R.hid x (fo x hx).1
        rw [n] at e'; cases e'
      · exact (fo x hx).2.2 z
/-- a value that is held, to be stored -/
def Held (c : Ct) (φ : Fx) (as : List Addr) (σ : L2.St) (env : Ev) (H : Hp) (v : V) : Rv → Prop
  | (.nw, d) => ∃ p o, v = .ref p ∧ p ∈ as ∧ p ∉ φ.as0 ∧ (p ∈ φ.no ∧ ND p σ env) ∧ H p = some o ∧ Con c (hideL H as) o d
  | (.sh, d) => Rep c (hideL H as) v d
  | (.al, d) => d.pure = true ∧ Rep c (hideL H as) v d
theorem held_of {v : V} {rv : Rv} (R : Rel c φ as σ H env) (gg : Gr H H1) (r : RvR c as H H1 v rv) (hk : keepK rv = true) : ∃ as1 l, (∀ a ∈ as, a ∈ as1) ∧ (∀ a ∈ as1, a ∈ as ∨ (H a = none ∧ rv.1 = .nw ∧ v = .ref a)) ∧ Gr (hideL H as) (hideL H1 as1) ∧ Rel c (φ.bans l) as1 σ H1 env ∧ Held c (φ.bans l) as1 σ env H1 v rv := by
  obtain ⟨k, d⟩ := rv
  cases k with
  | nw =>
    obtain ⟨q, o, rfl, n, e, con⟩ := r
    obtain ⟨gB, R'⟩ := R.hideNew gg n e con.mut
    refine ⟨q :: as, [q], fun a ha => .tail _ ha, fun a ha => ?_, gB, R', q, o, rfl, .head _, R.n0 n, ⟨.head _, R.nd n⟩, e, con⟩
    rcases List.mem_cons.mp ha with rfl | ha
    · exact .inr ⟨n, rfl, rfl⟩
    · exact .inl ha
  | sh => exact ⟨as, [], fun a ha => ha, fun a ha => .inl ha, gg.hide R.hid, R.gr gg, r⟩
  | al => exact ⟨as, [], fun a ha => ha, fun a ha => .inl ha, gg.hide R.hid, R.gr gg, hk, RepC.pure (R.hid.gr gg) hk r⟩
theorem Held.to {as1 : List Addr} {v : V} {rv : Rv} (sub : ∀ a ∈ as, a ∈ as1) (k : ∀ a ∈ as, H1 a = H a) (gg : Gr (hideL H as) (hideL H1 as1)) (h : Held c φ as σ env H v rv) : Held c φ as1 σ env H1 v rv := by
  obtain ⟨kd, d⟩ := rv
  cases kd with
  | nw =>
    obtain ⟨q, o, rfl, h1, h2, h3, h4, h5⟩ := h
    exact ⟨q, o, rfl, sub q h1, h2, h3, by rw [k q h1]; exact h4, h5.gr gg⟩
  | sh => exact Rep.gr gg h
  | al => exact ⟨h.1, Rep.gr gg h.2⟩
theorem Held.ban {v : V} {rv : Rv} {l : List Addr} (h : Held c φ as σ env H v rv) : Held c (φ.bans l) as σ env H v rv := by
  obtain ⟨kd, d⟩ := rv
  cases kd with
  | nw =>
    obtain ⟨q, o, rfl, h1, h2, h3, h4, h5⟩ := h
    exact ⟨q, o, rfl, h1, h2, ⟨List.mem_append_right _ h3.1, h3.2⟩, h4, h5⟩
  | sh => exact h
  | al => exact h
/-- several, each at its own place -/
inductive Hs (c : Ct) (φ : Fx) (as : List Addr) (σ : L2.St) (env : Ev) (H : Hp) : List V → List Rv → Prop
  | nil : Hs c φ as σ env H [] []
  | cons {v : V} {rv : Rv} {vs : List V} {rvs : List Rv} (a : Held c φ as σ env H v rv) (ne : rv.1 = .nw → ∀ w s, (w, s) ∈ vs.zip rvs → s.1 = .nw → w ≠ v) (b : Hs c φ as σ env H vs rvs) : Hs c φ as σ env H (v :: vs) (rv :: rvs)
def RfP (c : Ct) (E : XK) (t : TA) (f : Ev → Mo (List Rv)) : Prop := ∀ φ as σ H env, Rel c φ as σ H env →
  (∀ rvs, f env = .ok rvs → ∀ Q : List V → Hp → Prop, (∀ l vs H' as', (∀ a ∈ as, a ∈ as') → Gr H H' → Gr (hideL H as) (hideL H' as') → Rel c (φ.bans l) as' σ H' env → Hs c (φ.bans l) as' σ env H' vs rvs → (∀ w s, (w, s) ∈ vs.zip rvs → s.1 = .nw → ∃ q, w = .ref q ∧ H q = none) → Q vs H') → t σ H Q) ∧
  ∀ k n, f env = .ex k n → (∀ H' u d, Gr H H' → ExR c H' u d k n → E u d H') → ∀ Q, t σ H Q
def aConsK (f : Ev → Mo Rv) (g : Ev → Mo (List Rv)) : Ev → Mo (List Rv) := fun env => (f env).bind fun x => if keepK x = true then (g env).bind fun xs => .ok (x :: xs) else .no
theorem rfp_nil : RfP c E tNil aNil := fun φ as σ H env R => ⟨fun rvs e Q q => by cases e; exact q [] [] H as (fun a ha => ha) (.refl _) (.refl _) R .nil (fun w s h => by simp at h), fun k n e => by cases e⟩
theorem rfp_cons {ta : TE} {tr : TA} (ra : RfE c E ta f) (rr : RfP c E tr fs) : RfP c E (tCons ta tr) (aConsK f fs) := fun φ as σ H env R => by
  have T := ra φ as σ H env R
  refine ⟨fun rvs e Q q => ?_, fun k n e q Q => ?_⟩
  · obtain ⟨x, e1, e2⟩ := Mo.bind_eq_ok e
    obtain ⟨hk, e3⟩ := Mo.if_ok e2
    obtain ⟨xs, e4, e5⟩ := Mo.bind_eq_ok e3
    cases e5
    refine T.ok x e1 _ fun v H1 g1 r1 => ?_
    obtain ⟨as1, l1, sub1, back1, gB, R1, hh⟩ := held_of R g1 r1 hk
    refine (rr (φ.bans l1) as1 σ H1 env R1).1 xs e4 _ fun l2 vs H2 as2 sub2 g2 gB2 R2 hs new => ?_
    have keep1 : ∀ a ∈ as1, H2 a = H1 a := fun a ha => by
      obtain ⟨o, eo, mo⟩ := R1.hid a ha
      rw [eo]; exact g2.keep eo mo.noTbl
    have eb : (φ.bans l1).bans l2 = φ.bans (l2 ++ l1) := by unfold Fx.bans; simp
    rw [eb] at R2 hs
    have hh2 : Held c (φ.bans (l2 ++ l1)) as1 σ env H1 v x := by rw [← eb]; exact hh.ban
    refine q (l2 ++ l1) (v :: vs) H2 as2 (fun a ha => sub2 a (sub1 a ha)) (g1.trans g2) (gB.trans gB2) R2 (.cons (hh2.to sub2 keep1 gB2) (fun hn w s hw hs' => ?_) hs) fun w s hw hs' => ?_
    · obtain ⟨qq, rfl, nq⟩ := new w s hw hs'
      obtain ⟨kd, d⟩ := x
      cases (show kd = .nw from hn)
      obtain ⟨p1, o, rfl, _, _, _, h4, _⟩ := hh
      exact fun z => by cases z; rw [nq] at h4; cases h4
    · rw [List.zip_cons_cons, List.mem_cons] at hw
      rcases hw with hw | hw
      · cases hw
        obtain ⟨kd, d⟩ := x
        cases (show kd = .nw from hs')
        obtain ⟨p1, o, rfl, n, _⟩ := r1
        exact ⟨p1, rfl, n⟩
      · obtain ⟨qq, rfl, nq⟩ := new w s hw hs'
        exact ⟨qq, rfl, g1.free nq⟩
  · rcases Mo.bind_eq_ex e with e1 | ⟨x, e1, e2⟩
    · exact T.ex k n e1 q _
    · split at e2
      · rename_i hk
        rcases Mo.bind_eq_ex e2 with e3 | ⟨xs, e3, e4⟩
        · refine T.ok x e1 _ fun v H1 g1 r1 => ?_
          obtain ⟨as1, l1, sub1, back1, gB, R1, hh⟩ := held_of R g1 r1 hk
          exact (rr (φ.bans l1) as1 σ H1 env R1).2 k n e3 (fun H' u d g x => q H' u d (g1.trans g) x) _
        · cases e4
      · cases e2
/-- stored one by one -/
def bindN : List Nat → List Rv → Ev → Option Ev
  | [], [], env => some env
  | i :: is, rv :: rvs, env => (bind1 i rv env).bind fun e => bindN is rvs e
  | _, _, _ => none
def setN : List Nat → List V → L2.St → L2.St
  | i :: is, v :: vs, σ => setN is vs (σ.set i (some v))
  | _, _, σ => σ
theorem Rel.setHeld {v : V} {rv : Rv} {i : Nat} {env' : Ev} (R : Rel c φ as σ H env) (h : Held c φ as σ env H v rv) (e : Pm.bind1 i rv env = some env') : Rel c φ as (σ.set i (some v)) H env' := by
  obtain ⟨k, d⟩ := rv
  cases k with
  | sh => cases e; exact R.setSh h
  | al =>
    unfold Pm.bind1 at e
    dsimp only at e
    rw [if_pos h.1] at e
    cases e
    exact R.setSh h.2
  | nw =>
    cases e
    obtain ⟨q, o, rfl, h1, h2, h3, h4, h5⟩ := h
    refine ⟨by rw [List.length_set, List.length_set]; exact R.len, R.hid, R.sub, R.base, R.tabs, R.keep, fun j fl d' z => ?_, fun j k d1 d2 ne q1 q2 => ?_, R.ioN, R.ioM, ?_⟩
    · rw [List.getElem?_set] at z
      rw [List.getElem?_set]
      by_cases y : i = j
      · subst y
        rw [if_pos rfl] at z
        rw [if_pos rfl, R.len]
        by_cases l : i < env.length
        · rw [if_pos l] at z
          rw [if_pos l]
          cases z
          exact ⟨_, rfl, q, o, rfl, h1, h2, h4, h5⟩
        · rw [if_neg l] at z; cases z
      · rw [if_neg y] at z
        rw [if_neg y]
        exact R.slot j fl d' z
    · rw [List.getElem?_set] at q1 q2
      rw [List.getElem?_set, List.getElem?_set]
      by_cases z : i = j
      · subst z
        rw [if_pos rfl] at q1
        rw [if_neg ne] at q2
        rw [if_pos rfl, if_neg ne]
        have l : i < σ.length := by
          rw [R.len]
          by_cases l : i < env.length
          · exact l
          · rw [if_neg l] at q1; cases q1
        rw [if_pos l]
        exact fun z => h3.2 k d2 q2 z.symm
      · rw [if_neg z] at q1
        rw [if_neg z]
        by_cases z2 : i = k
        · subst z2
          rw [if_pos rfl] at q2
          rw [if_pos rfl]
          have l : i < σ.length := by
            rw [R.len]
            by_cases l : i < env.length
            · exact l
            · rw [if_neg l] at q2; cases q2
          rw [if_pos l]
          exact h3.2 j d1 q1
        · rw [if_neg z2] at q2
          rw [if_neg z2]
          exact R.dj j k d1 d2 ne q1 q2
    · obtain ⟨fq, k1, k2, k3, k4, k5⟩ := R.mls
      have back : ∀ (j : Nat) (d' : Dt), (env.set i (some (Fl.ow, d)))[j]? = some (some (Fl.ml, d')) → i ≠ j ∧ env[j]? = some (some (Fl.ml, d')) := fun j d' z => by
        rw [List.getElem?_set] at z
        by_cases y : i = j
        · rw [if_pos y] at z
          split at z <;> cases z
        · rw [if_neg y] at z
          exact ⟨y, z⟩
      refine ⟨fq, fun j d' z => ?_, fun j k d1 d2 ne z1 z2 => k2 j k d1 d2 ne (back j d1 z1).2 (back k d2 z2).2, fun j k d1 d2 z1 z2 x hx => ?_, k4, fun p hp => ⟨(k5 p hp).1, fun e z => by
        obtain ⟨y, z⟩ := back _ e z
        rw [List.getElem?_set, if_neg y]
        exact (k5 p hp).2 e z⟩⟩
      · obtain ⟨y, z⟩ := back j d' z
        rw [List.getElem?_set, if_neg y]
        exact k1 j d' z
      · obtain ⟨y2, z2⟩ := back k d2 z2
        rw [List.getElem?_set] at z1
        rw [List.getElem?_set]
        by_cases y : i = j
        · rw [if_pos y]
          obtain ⟨a, s, mi, fo⟩ := k1 k d2 z2
          split
          · exact fun z => by cases z; exact (fo _ hx).2.2 h3.1
          · exact fun z => by cases z
        · rw [if_neg y] at z1
          rw [if_neg y]
          exact k3 j k d1 d2 z1 z2 x hx
theorem Held.set {v w : V} {rv s : Rv} {i : Nat} {env' : Ev} (h : Held c φ as σ env H w s) (e : bind1 i rv env = some env') (ne : rv.1 = .nw → s.1 = .nw → w ≠ v) : Held c φ as (σ.set i (some v)) env' H w s := by
  obtain ⟨k, d⟩ := s
  cases k with
  | sh => exact h
  | al => exact h
  | nw =>
    obtain ⟨q, o, rfl, h1, h2, h3, h4, h5⟩ := h
    refine ⟨q, o, rfl, h1, h2, ⟨h3.1, fun j d' z y => ?_⟩, h4, h5⟩
    rw [List.getElem?_set] at y
    obtain ⟨k', d''⟩ := rv
    have key : (i = j ∧ k' = .nw ∧ some (some v) = some (some (V.ref q))) ∨ (i ≠ j ∧ env[j]? = some (some (Fl.ow, d'))) := by
      cases k' with
      | nw =>
        cases e
        rw [List.getElem?_set] at z
        by_cases x : i = j
        · rw [if_pos x] at y
          refine .inl ⟨x, rfl, ?_⟩
          split at y
          · exact y
          · cases y
        · rw [if_neg x] at z; exact .inr ⟨x, z⟩
      | sh =>
        cases e
        rw [List.getElem?_set] at z
        by_cases x : i = j
        · rw [if_pos x] at z; split at z <;> cases z
        · rw [if_neg x] at z; exact .inr ⟨x, z⟩
      | al =>
        unfold Pm.bind1 at e
        dsimp only at e
        split at e
        · cases e
          rw [List.getElem?_set] at z
          by_cases x : i = j
          · rw [if_pos x] at z; split at z <;> cases z
          · rw [if_neg x] at z; exact .inr ⟨x, z⟩
        · cases e
    rcases key with ⟨_, hk, hv⟩ | ⟨x, z⟩
    · cases hv
      exact ne hk rfl rfl
    · rw [if_neg x] at y
      exact h3.2 j d' z y
theorem Hs.set {v : V} {rv : Rv} {i : Nat} {env' : Ev} (e : bind1 i rv env = some env') : ∀ {vs : List V} {rvs : List Rv}, (rv.1 = .nw → ∀ w s, (w, s) ∈ vs.zip rvs → s.1 = .nw → w ≠ v) → Hs c φ as σ env H vs rvs → Hs c φ as (σ.set i (some v)) env' H vs rvs
  | _, _, _, .nil => .nil
  | _, _, ne, .cons a n b => .cons (a.set e fun h1 h2 => ne h1 _ _ (by simp) h2) n (Hs.set e (fun h1 w s h2 h3 => ne h1 w s (by rw [List.zip_cons_cons]; exact .tail _ h2) h3) b)
theorem Rel.setN : ∀ {is : List Nat} {vs : List V} {rvs : List Rv} {σ : L2.St} {env env' : Ev}, Rel c φ as σ H env → Hs c φ as σ env H vs rvs → bindN is rvs env = some env' → Rel c φ as (Pm.setN is vs σ) H env'
  | [], _, _, _, _, _, R, .nil, e => by cases e; exact R
  | [], _, _, _, _, _, R, .cons _ _ _, e => by cases e
  | _ :: _, _, _, _, _, _, R, .nil, e => by cases e
  | i :: is, _, _, _, env, env', R, .cons (rv := rv) (rvs := rvs) a n b, e => by
    have e' : (Pm.bind1 i rv env).bind (fun e => bindN is rvs e) = some env' := e
    obtain ⟨env1, e1, e2⟩ := Option.bind_eq_some_iff.mp e'
    have t := Rel.setN (R.setHeld a e1) (b.set e1 n) e2
    exact t
def mPars (is : List Nat) (fs : Ev → Mo (List Rv)) : Sv := fun env => (fs env).bind fun rvs => (Mo.of (bindN is rvs env)).bind fun e => .ok (.nx e)
def DP (c : Ct) (X : Cx) (E : XK) (es : List Expr) (f : Ev → Mo (List Rv)) : Prop := ∃ t, PA X es t ∧ RfP c E t f
theorem dp_nil : DP c X E [] aNil := ⟨_, pa_nil, rfp_nil⟩
theorem dp_cons {es : List Expr} (ha : DE c X E a f) (hr : DP c X E es fs) (hs : starEach (a :: es) X.env = (false, eval a X.env) :: starEach es X.env := by rfl) : DP c X E (a :: es) (aConsK f fs) := let ⟨_, pa, ra⟩ := ha; let ⟨_, pr, rr⟩ := hr; ⟨_, pa_cons pa pr hs, rfp_cons ra rr⟩
theorem rf_pars {is : List Nat} {t : TA} {G : Ends → L2.St → List V → Hp → Prop} (rr : RfP c E t fs) (hG : ∀ (D : Ends) σ vs H1, vs.length = is.length → D.nx (setN is vs σ) H1 → G D σ vs H1) : RfS c E (fun D σ H => t σ H fun vs H1 => G D σ vs H1) (mPars is fs) := fun φ as σ H env R => by
  have T := rr φ as σ H env R
  refine ⟨fun fw e D q => ?_, fun k n e q D => ?_⟩
  · obtain ⟨rvs, e1, e2⟩ := Mo.bind_eq_ok e
    obtain ⟨env', e3, e4⟩ := Mo.bind_eq_ok e2
    cases e4
    refine T.1 rvs e1 _ fun l vs H' as' sub g gB R' hs _ => hG D σ vs H' ?_ (q as' _ H' gB (R'.setN hs (Mo.of_eq_ok e3)).unban)
    have key : ∀ {is : List Nat} {vs : List V} {rvs : List Rv} {env env' : Ev} {σ : L2.St}, Hs c (φ.bans l) as' σ env H' vs rvs → ∀ env2, bindN is rvs env2 = some env' → vs.length = is.length := by
      intro is vs rvs env env' σ h
      induction h generalizing is with
      | nil =>
        intro env2 e
        cases is with
        | nil => rfl
        | cons _ _ => cases e
      | cons a n b ih =>
        intro env2 e
        cases is with
        | nil => cases e
        | cons i is =>
          obtain ⟨env1, e1, e2⟩ := Option.bind_eq_some_iff.mp (show (bind1 i _ env2).bind (fun e => bindN is _ e) = some env' from e)
          simp [ih env1 e2]
    exact key hs env (Mo.of_eq_ok e3)
  · rcases Mo.bind_eq_ex e with e1 | ⟨rvs, e1, e2⟩
    · exact T.2 k n e1 (q.of R) _
    · rcases Mo.bind_eq_ex e2 with e3 | ⟨_, _, e4⟩
      · exact (Mo.of_ne_ex e3).elim
      · cases e4
theorem ds_par2 {i j : Nat} {x y : Str} {px py pt : Pos} {kt k2 : Nat} {pt2 : Pos} (hc : X.calm = true) (hN : X.N.Nodup) (hi : X.N[i]? = some x) (hj : X.N[j]? = some y) (hij : i ≠ j) (hx : X.env.scope.names.lookup x = some .local) (hy : X.env.scope.names.lookup y = some .local) (ha : DP c X E [a, b] fs)
    (hw : swappedStores [.Tuple [.Name x px, .Name y py] kt pt] (.Tuple [a, b] k2 pt2) X.env = pure (some [x, y]) := by rfl)
    (hs : swapsWithSole [.Tuple [.Name x px, .Name y py] kt pt] (.Tuple [a, b] k2 pt2) pos.line X.env = pure false := by rfl) : DS c X E (.Assign [.Tuple [.Name x px, .Name y py] kt pt] (.Tuple [a, b] k2 pt2) pos) (mPars [i, j] fs) := by
  obtain ⟨t, pa, ra⟩ := ha
  refine ⟨_, ps_par hc hN hi hj hij hx hy pa hw hs, rf_pars (G := fun D σ vs H1 => ∃ v w, vs = [v, w] ∧ D.nx ((σ.set i (some v)).set j (some w)) H1) ra fun D σ vs H1 l h => ?_⟩
  match vs, l with
  | [v, w], _ => exact ⟨v, w, rfl, h⟩
theorem rf_chain {r r' : R2} {o o' : Dt → Dt → Option Bool} {ta tb tc : TE} (ho : OpD c r (cmpD o)) (ho' : OpD c r' (cmpD o')) (ra : RfE c E ta f) (rb : RfE c E tb g) (rh : RfE c E tc h) : RfE c E (tChain r r' ta tb tc) (eChain o o' f g h) := fun φ as σ H env R =>
  (ra φ as σ H env R).bind fun x H1 rv1 _ g1 r1 => (rb φ as σ H1 env (R.gr g1)).bind fun y H2 rv2 _ g2 r2 => by
    have h1 := R.hid.gr g1
    have h2 := h1.gr g2
    have R2 := (R.gr g1).gr g2
    have x2 := (r1.rc R.hid).gr h1 g2
    have y2 := r2.rc h1
    cases e : o rv1.2 rv2.2 with
    | none => exact .no
    | some k =>
      have first : ∀ Q : VK, (∀ H3, Gr H2 H3 → Q (.bl k) H3) → r x y H2 Q := fun Q q => ho as H2 x y rv1.2 rv2.2 (.sh, .bl k) h2 x2 y2 (by unfold cmpD; rw [e]; rfl) Q fun v H' g3 r3 => by rw [rep_bl r3]; exact q H' g3
      simp only [Mo.of_some, Mo.bind_ok]
      cases k with
      | false =>
        refine ⟨fun rv ee Q q => first _ fun H3 g3 => ⟨false, rfl, ?_⟩, fun k n ee => by cases ee⟩
        cases ee
        exact q _ H3 g3 (.bl _)
      | true =>
        rw [if_pos rfl]
        have T : ∀ H3, Gr H2 H3 → Tr c E H3 (fun v H' rv => RvR c as H H' v rv) (fun Q => tc σ H3 fun w' H4 => r' y w' H4 Q) ((h env).bind fun z => Mo.of (cmpD o' rv2.2 z.2)) := fun H3 g3 =>
          (rh φ as σ H3 env (R2.gr g3)).bind fun z H4 rv3 _ g4 r4 => .of fun rv e Q q => ho' as H4 y z rv2.2 rv3.2 rv ((h2.gr g3).gr g4) ((y2.gr h2 g3).gr (h2.gr g3) g4) (r4.rc (h2.gr g3)) e Q fun v H' g5 r5 => q v H' g5 (r5.back (((g1.trans g2).trans g3).trans g4))
        exact ⟨fun rv ee Q q => first _ fun H3 g3 => ⟨true, rfl, (T H3 g3).ok rv ee Q fun v H' g4 r4 => q v H' (g3.trans g4) r4⟩, fun k n ee q Q => first _ fun H3 g3 => ⟨true, rfl, (T H3 g3).ex k n ee (fun H' u d g x => q H' u d (g3.trans g) x) Q⟩⟩
theorem de_chain {op op' : CmpOp} {d : Expr} {o o' : Dt → Dt → Option Bool} (hr : CmpR c X op o) (hr' : CmpR c X op' o') (ha : DE c X E a f) (hb : DE c X E b g) (hd : DE c X E d h) (hm : lastMarks [op, op'] [b, d] = false := by with_unfolding_all rfl) : DE c X E (.Compare a [op, op'] [b, d] pos) (eChain o o' f g h) :=
  let ⟨_, pa, ra⟩ := ha; let ⟨_, pb, rb⟩ := hb; let ⟨_, pd, rd⟩ := hd; let ⟨_, h1, h2⟩ := hr.at'; let ⟨_, h3, h4⟩ := hr'.at'; ⟨_, pe_chain h1 h3 pa pb pd hm, rf_chain h2 h4 ra rb rd⟩
def bOf (f : Ev → Mo Rv) : Ev → Mo Bool := fun env => (f env).bind fun x => match x.2 with
  | .bl k => .ok k
  | _ => .no
theorem rf_bOf {t : TE} (r : RfE c E t f) : RfT c E (tTest t) (bOf f) := fun φ as σ H env R => (r φ as σ H env R).bind fun x H1 rv he g1 r1 => by
  clear he
  have rc := r1.rc R.hid
  generalize rv.2 = d at rc
  cases d with
  | bl k =>
    rw [repC_bl rc]
    exact .exi k (.wrap (γ := Unit) (δ := Unit) (.pure (R := fun b _ k => b = k) rfl) rfl)
  | _ => exact .no
theorem dt_chain {op op' : CmpOp} {d : Expr} {o o' : Dt → Dt → Option Bool} (hr : CmpR c X op o) (hr' : CmpR c X op' o') (ha : DE c X E a f) (hb : DE c X E b g) (hd : DE c X E d h) (hm : lastMarks [op, op'] [b, d] = false := by with_unfolding_all rfl) : DT c X E (.Compare a [op, op'] [b, d] pos) (bOf (eChain o o' f g h)) :=
  let ⟨_, pa, ra⟩ := ha; let ⟨_, pb, rb⟩ := hb; let ⟨_, pd, rd⟩ := hd; let ⟨_, h1, h2⟩ := hr.at'; let ⟨_, h3, h4⟩ := hr'.at'; ⟨_, pt_chain h1 h3 pa pb pd hm, rf_bOf (rf_chain h2 h4 ra rb rd)⟩
end
end Pm
set_option maxHeartbeats 4000000
namespace Pm
open PySem PySem.Spec PyProof.Rows L2 GxR GX
variable [LamTab]
def spIo (c : Ct) (n : Nat) (F : List Dt → Mo (Rv × Dt)) : Sp := fun vs H Q _ => ∃ as a ws ds o d0, vs = .ref a :: ws ∧ vs.length = n ∧ Hid as H ∧ a ∈ as ∧ H a = some o ∧ Con c (hideL H as) o d0 ∧ RepAll c (hideL H as) ws ds ∧ Tabs c.ts H ∧
  ∃ rv d1, F (d0 :: ds) = .ok (rv, d1) ∧ ∀ v H' o', Sx a H H' → H' a = some o' → Con c (hideL H' as) o' d1 → RvR c as H H' v rv → Q v H'
def FIo (c : Ct) (x : Str) (k : Nat) (ps : List Str) (F : List Dt → Mo (Rv × Dt)) : Prop := OkX c x k ps (spIo c ps.length F)
theorem FIo.mono {c : Ct} {x : Str} {j k : Nat} {ps : List Str} {F : List Dt → Mo (Rv × Dt)} (h : FIo c x j ps F) (hk : j ≤ k) : FIo c x k ps F := let ⟨f, fd, F, r⟩ := h; ⟨f, fd, F.mono hk, r⟩
end Pm
set_option maxHeartbeats 4000000
namespace Pm
open PySem PySem.Spec PyProof.Rows L2 GxR GX
variable [LamTab]
def zE : Expr := .Constant .none 0 ⟨0, 0, 0, 0⟩
def zS : Stmt := .Pass ⟨0, 0, 0, 0⟩
def sAt (l : List Stmt) (n : Nat) : Stmt := l.getD n zS
def sVal : Stmt → Expr
  | .Return (some e) _ => e
  | .Assign _ e _ => e
  | .Expr e _ => e
  | .For _ e _ _ _ => e
  | .While e _ _ _ => e
  | .If e _ _ _ => e
  | .AugAssign _ _ e _ => e
  | _ => zE
def xAt (l : List Expr) (n : Nat) : Expr := l.getD n zE
/-- the n-th part of an expression, as they are written -/
def xSub : Expr → Nat → Expr
  | .BoolOp _ vs _, n => xAt vs n
  | .BinOp l _ r _, n => xAt [l, r] n
  | .UnaryOp _ e _, _ => e
  | .Lambda _ e _ _, _ => e
  | .IfExp t a b _, n => xAt [t, a, b] n
  | .Dict _ vs _, n => xAt vs n
  | .ListComp e _ _ _, _ => e
  | .SetComp e _ _ _, _ => e
  | .DictComp k v _ _ _, n => xAt [k, v] n
  | .GeneratorExp e _ _ _, _ => e
  | .Compare l _ cs _, n => xAt (l :: cs) n
  | .Call f as _ _, n => xAt (f :: as) n
  | .Attribute e _ _, _ => e
  | .Subscript a b _, n => xAt [a, b] n
  | .Starred e _, _ => e
  | .List es _, n => xAt es n
  | .Tuple es _ _, n => xAt es n
  | e, _ => e
def xScope : Expr → Scope
  | .ListComp _ _ s _ => s
  | .SetComp _ _ s _ => s
  | .DictComp _ _ _ s _ => s
  | .GeneratorExp _ _ s _ => s
  | .Lambda _ _ s _ => s
  | _ => default
theorem u65_of {k : Nat} {A : Around} (r : Room k A) : A.units + 65 < cLine := by have := r.un; omega
abbrev subD := intD (fun _ _ => true) (· - ·)
abbrev mulD := intD okMul (· * ·)
abbrev modD := intD (fun _ j => decide (0 < j)) (· % ·)
abbrev fdivD := intD (fun _ j => decide (0 < j ∧ j.natAbs.log2 < 9000)) (· / ·)
abbrev powD := intD (fun i j => decide (0 ≤ j ∧ j ≤ 1000000 ∧ i.natAbs < 2 ^ 64)) (fun i j => i ^ j.toNat)
section
variable {c : Ct} {X : Cx} {E : XK} {pos p : Pos} {a b e : Expr} {f g : Ev → Mo Rv} {x : Str} {fs : Ev → Mo (List Rv)}
theorem dv (i : Nat) (hN : X.N[i]? = some x := by rfl) (hv : Vis X.env.scope x := by first | exact .inl rfl | exact .inr (.inl rfl) | exact .inr (.inr rfl)) (hd : (x == ("__debug__" : Str)) = false := by decide) (hcd : (x == ("__classdict__" : Str)) = false := by decide) : DE c X E (.Name x pos) (eVar i) := de_var hN hv hd hcd
theorem gn (i : Nat) (hN : X.N.Nodup) (hi : X.N[i]? = some x := by rfl) (hx : Loc X.env.scope x := by first | exact .inl rfl | exact .inr rfl) (hf : X.fn x = true ∨ X.env.scope.names.lookup x = some .local := by first | exact .inl rfl | exact .inr rfl | assumption) : DG c X (.Name x pos) (pName i) [i] := dg_name hN hi hx hf
theorem dst (i : Nat) {pos' : Pos} (hN : X.N.Nodup) (he : DE c X E e f) (hi : X.N[i]? = some x := by rfl) (hx : Loc X.env.scope x := by first | exact .inl rfl | exact .inr rfl) (hs : swapsWith e (some (.Name x pos')) pos.line X.env = pure false := by rfl) (hf : X.fn x = true ∨ X.env.scope.names.lookup x = some .local := by first | exact .inl rfl | exact .inr rfl | assumption) :
    DS c X E (.Assign [.Name x pos'] e pos) (mSet i f) := ds_set hN hi hx he hs hf
theorem dretV (i : Nat) {pos' : Pos} (hN : X.N[i]? = some x := by rfl) (hv : Vis X.env.scope x := by first | exact .inl rfl | exact .inr (.inl rfl) | exact .inr (.inr rfl)) (hd : (x == ("__debug__" : Str)) = false := by decide) (hcd : (x == ("__classdict__" : Str)) = false := by decide) : DS c X E (.Return (some (.Name x pos')) pos) (mRetV i) := ds_retV hN hv hd hcd
end
/-- what is built in stands as it is -/
structure BI (c : Ct) : Prop where
  len : c.mg "len" = none
  sorted : c.mg "sorted" = none
  set : c.mg "set" = none
  tuple : c.mg "tuple" = none
  list : c.mg "list" = none
  dict : c.mg "dict" = none
  range : c.mg "range" = none
  zip : c.mg "zip" = none
  reversed : c.mg "reversed" = none
  any : c.mg "any" = none
  all : c.mg "all" = none
  max : c.mg "max" = none
theorem law_run {c : Ct} {st : Stmt} {N : List Str} {k : Nat} {m : Sv} {f : Addr} {fd : FuncData} {cd : Addr} {x : Str} (D : DefAt c "law" st [] f fd cd) (S : FnScope N [x] (defScope st)) (hl : 1 ≤ N.length) {sp : Sp}
    (hsp : ∀ vs H Q E, sp vs H Q E → ∃ (a : Addr) (ns : List Int), vs = [.ref a] ∧ SqL c.K H a (ns.map V.int) ∧ ns.length ≤ 63 ∧ Tabs c.ts H ∧ ∀ H', Q (.bl true) H')
    (hm : ∀ ns : List Int, ns.length ≤ 63 → runMo N.length m [.scr ns] = .ok (.sh, .bl true))
    (hbody : ∀ (A : Around) (outer : List Env) (s : Shared) (H : Hp), Room k (A.deeper (envOfC "law" (defScope st) s.heap.objs.size f (.ref cd))) → DSs c (cxOf CX0 c.P c.w c.K c.mg c.base N "law" (defScope st) f (.ref cd) A outer s H NoE).nox NoE (defBody st) m) : FnOk c.P c.w c.K c.mg c.base CX0 (k + 1) f fd [x] sp := by
  obtain ⟨⟨oc, od, dV, kV, doc, pm, an, ct, osl, rfl, lk, hcd, hD, _⟩, kp, hmg⟩ := D
  refine fn_of lk hcd S (fun vs H Q E h => ?_) fun A outer s H vs Q E hr h => ?_
  · obtain ⟨a, ns, rfl, _⟩ := hsp vs H Q E h; rfl
  · obtain ⟨a, ns, rfl, hS, hn, hT, q⟩ := hsp vs H Q E h
    obtain ⟨t, p, r⟩ := hbody A outer s H hr
    refine ⟨t, ?_, body_ok (ps := [x]) (Q := Q) (E := NoE) hl r ⟨[], [.scr ns], rfl, fun a ha => (by cases ha), .cons (.scr (by rw [hideL_nil]; exact hS)) .nil, hT, .inl ⟨_, hm ns hn, fun v H' g rr => ?_⟩⟩⟩
    · have p' : PSs (cxOf CX0 c.P c.w c.K c.mg c.base N "law" (defScope st) f (.ref cd) A outer s H E).nox (defBody st) t := p
      exact p'.nox
    · have e : v = .bl true := rep_bl rr
      rw [e]
      exact q H'
end Pm
set_option maxHeartbeats 4000000
namespace Pm
open PySem PySem.Spec PyProof.Rows L2 GxR GX
variable [LamTab]
def TupS (h : Heap) (b : Addr) (x : Str) : Prop := ∃ (o : Obj) (xs : Array Value) (n : Nat) (t : Tok) (rest : List Value), h.get? b = some o ∧ o.cls = .type "tuple" ∧ o.data = .seq xs n ∧ xs.toList = Value.str x t :: rest
theorem TupS.keep {h h' : Heap} {b : Addr} {x : Str} (x : TupS h b x) (k : ∀ o, h.get? b = some o → h'.get? b = some o) : TupS h' b ‹Str› :=
  let ⟨o, xs, n, t, rest, e, r⟩ := x
  ⟨o, xs, n, t, rest, k o e, r⟩
end Pm
set_option maxHeartbeats 4000000
set_option maxHeartbeats 4000000
set_option maxHeartbeats 4000000
namespace Pm
open PySem PySem.Spec PyProof.Rows L2 GxR GX
variable [LamTab]
structure BJ (c : Ct) : Prop where
  isi : c.mg "isinstance" = none
  str : c.mg "str" = none
  int : c.mg "int" = none
  bool : c.mg "bool" = none
section
variable {c : Ct} {X : Cx} {E : XK} {a : Expr} {f : Ev → Mo Rv} {p p2 q0 pos : Pos}
def tyDt : Dt → Option String
  | .non => some "NoneType"
  | .bl _ => some "bool"
  | .int _ => some "int"
  | .str _ => some "str"
  | .tup _ => some "tuple"
  | .lst _ => some "list"
  | .scr _ => some "list"
  | _ => none
theorem tyx_rep {H : Hp} {v : V} {d : Dt} {T : String} (h : Rep c H v d) (e : tyDt d = some T) : TyX c.K H v (.type T) ∧ T ∈ ["NoneType", "bool", "int", "str", "list", "tuple"] := by
  cases h with
  | non => cases e; exact ⟨.base .non, by simp⟩
  | bl b => cases e; exact ⟨.base (.bl b), by simp⟩
  | int i => cases e; exact ⟨.base (.int i), by simp⟩
  | str x => cases e; exact ⟨.base (.str x), by simp⟩
  | tup s _ => cases e; exact ⟨tyx_sqT s, by simp⟩
  | lst s _ => cases e; exact ⟨tyx_sqL (.of s), by simp⟩
  | scr s => cases e; exact ⟨tyx_sqL s, by simp⟩
  | dic s _ => cases e
  | dit s _ => cases e
  | ktp s => cases e
  | ptp _ _ _ => cases e
  | fn h => cases e
  | exc _ _ _ _ => cases e
def eIsi (T : String) (f : Ev → Mo Rv) : Ev → Mo Rv := fun env => (f env).bind fun x => Mo.of ((tyDt x.2).map fun a => (Kd.sh, Dt.bl (isS a T)))
theorem de_isi {x : Str} {T : String} (hm : c.mg "isinstance" = none) (hT : c.mg x = none) (ht : T ∈ ["bool", "int", "str", "list", "tuple"]) (hb : bootBuiltins x = some (.type T)) (ha : DE c X E a f) (hK : X.K = c.K := by rfl) (h4 : X.mg = c.mg := by rfl)
    (hg : Gl X "isinstance" := by rfl) (hg2 : Gl X x := by rfl) (hn : x ≠ "__name__" := by decide) (hdb : (x == ("__debug__" : Str)) = false := by decide)
    (he : starEach [a, .Name x p2] X.env = (false, eval a X.env) :: starEach [.Name x p2] X.env := by rfl) (he2 : starEach [.Name x p2] X.env = (false, eval (.Name x p2) X.env) :: starEach [] X.env := by rfl)
    (hpl : (backTo pos (starEach [.Name x p2] X.env)).any (·.1) = false := by rfl) :
    DE c X E (.Call (.Name "isinstance" p) [a, .Name x p2] [] pos) (eIsi T f) := by
  obtain ⟨t, pa, ra⟩ := ha
  refine ⟨_, pe_callB call_isi hg (by rw [h4]; exact hm) (by decide +kernel) (pa_cons pa (pa_cons (pe_bltn (v := .ty T) hg2 (by rw [h4]; exact hT) hb rfl hn hdb) pa_nil he2) he) (by decide) (by decide) he hpl,
    fun φ as σ H env R => (ra φ as σ H env R).bind fun v H1 rv _ g1 r1 => .of fun rv' e Q q => ?_⟩
  obtain ⟨T', e1, rfl⟩ := Option.map_eq_some_iff.mp e
  have rc := (r1.rc R.hid).full
  obtain ⟨ty, hin⟩ := tyx_rep rc e1
  refine ⟨v, .ty T, _, _, isS T' T, rfl, .ty T, by rw [hK]; exact ty, kit_ty (kit_all T' hin T ht), q _ H1 (.refl _) (.bl _)⟩
def KD2 (c : Ct) (x : Str) (tb : List (Str × Dt)) : Prop := ∃ a, c.mg x = some (.ref a) ∧ (a == sysModules) = false ∧ ∀ z d, tb.lookup z = some d → ∃ v, KDct c.K c.w a z v ∧ ∀ H, Rep c H v d
theorem KD2.one {x : Str} {tb : List (Str × Dt)} (T : KD2 c x tb) : KD1 c x tb := let ⟨a, h1, _, h3⟩ := T; ⟨a, h1, h3⟩
end
end Pm
set_option maxHeartbeats 4000000
set_option maxHeartbeats 4000000
set_option maxHeartbeats 4000000
set_option maxHeartbeats 4000000
set_option maxHeartbeats 4000000
namespace Pm
open PySem PySem.Spec PyProof.Rows L2 GxR GX
variable [LamTab]
/-- what is read of the one is read of the other -/
structure Sm (c : Ct) (H H' : Hp) : Prop where
  t : ∀ {a : Addr} {vs : List V}, SqT c.K H a vs → SqT c.K H' a vs
  l : ∀ {a : Addr} {vs : List V}, SqL c.K H a vs → SqL c.K H' a vs
  ll : ∀ {a : Addr} {vs : List V}, H a = some (.lst vs) → H' a = some (.lst vs)
  tt : ∀ {a : Addr} {vs : List V}, H a = some (.tup vs) → H' a = some (.tup vs)
  d : ∀ {a : Addr} {kvs : List (Key × V)}, Rd H a (.dK kvs) → Rd H' a (.dK kvs)
  e : ∀ {a : Addr} {kvs : List (List Key × V)}, Rd H a (.dT kvs) → Rd H' a (.dT kvs)
  p : ∀ {a : Addr} {ob : Obj} {vs : List V}, H a = some (.frz ob (.tup vs)) → H' a = some (.frz ob (.tup vs))
  i : ∀ {a C dx : Addr} {fs : List (Str × V)}, H a = some (.ins C dx fs) → H' a = some (.ins C dx fs)
  x : ∀ {a : Addr} {p : Heap → Prop}, H a = some (.ext p) → H' a = some (.ext p)
/-- a dict's object -/
def IsD (w : HO) : Prop := (∃ kvs, w = .dK kvs) ∨ ∃ kvs, w = .dT kvs
theorem IsD.nt {w : HO} (h : IsD w) : ∀ x, w ≠ .tbl x := fun x z => by rcases h with ⟨_, rfl⟩ | ⟨_, rfl⟩ <;> cases z
end Pm
set_option maxHeartbeats 4000000
set_option maxHeartbeats 4000000
set_option maxHeartbeats 4000000
set_option maxHeartbeats 4000000
set_option maxHeartbeats 4000000
set_option maxHeartbeats 4000000
set_option maxHeartbeats 4000000
set_option maxHeartbeats 4000000
set_option maxHeartbeats 4000000
set_option maxHeartbeats 4000000
set_option maxHeartbeats 4000000
namespace Pm
open PySem PySem.Spec PyProof.Rows L2 GxR GX
variable [LamTab]
section
variable {prog : Program} {w : World} {K : Type} [DecidableEq K] {knd : HeapKind prog w K} {A : Around} {E : Value → Shared → Prop} {s : Shared}
inductive HitsT (A : Around) (s : Shared) (xb : List (K × Addr × Value)) : List (K × Addr × Value) → Bool → Prop
  | nil : HitsT A s xb [] true
  | miss {k : K} {a : Addr} {v : Value} {r : List (K × Addr × Value)} : atKey xb k = none → HitsT A s xb ((k, a, v) :: r) false
  | hit {k : K} {a : Addr} {v : Value} {p : Addr × Value} {r : List (K × Addr × Value)} {e b : Bool} : atKey xb k = some p → SeqAt.EqAt A s v p.2 e → HitsT A s xb r b → HitsT A s xb ((k, a, v) :: r) (e && b)
theorem HitsT.out {xb : List (K × Addr × Value)} {k : K} {a : Addr} {v : Value} {r : List (K × Addr × Value)} {b : Bool} (h : HitsT A s xb ((k, a, v) :: r) b) :
    (atKey xb k = none ∧ b = false) ∨ ∃ p e b', atKey xb k = some p ∧ SeqAt.EqAt A s v p.2 e ∧ HitsT A s xb r b' ∧ b = (e && b') := by
  cases h with
  | miss hn => exact .inl ⟨hn, rfl⟩
  | hit hy he hr => exact .inr ⟨_, _, _, hy, he, hr, rfl⟩
end
end Pm
set_option maxHeartbeats 4000000
set_option maxHeartbeats 4000000
set_option maxHeartbeats 4000000
namespace Pm
open PySem PySem.Spec PyProof.Rows L2 L2.DX GxR GX Ob
variable [LamTab]
section
variable {X : Cx}
abbrev TI := Addr × Addr × List Str × V
end
end Pm
set_option maxHeartbeats 4000000
set_option maxHeartbeats 4000000
set_option maxHeartbeats 4000000
namespace GX
open PySem PySem.Spec PyProof.Rows L2 GxR GenW
end GX
set_option maxHeartbeats 4000000
set_option maxHeartbeats 4000000
namespace GX
open PySem PySem.Spec PyProof.Rows L2 GxR GenW
end GX
set_option maxHeartbeats 4000000
namespace GX
open PySem PySem.Spec PyProof.Rows L2 GxR GenW
end GX
set_option maxHeartbeats 4000000
set_option maxHeartbeats 4000000
set_option maxHeartbeats 4000000
set_option maxHeartbeats 4000000
namespace Pm
open PySem PySem.Spec PyProof.Rows L2 GxR GX
variable [LamTab]
theorem fd_ofN {c : Ct} {x : Str} {st : Stmt} {N ps : List Str} {k : Nat} {m : Sv} {F : List Dt → Mo Rv} (hF : F = runMo N.length m) (D : Df c x st) (S : FnScope N ps (defScope st)) (hl : ps.length ≤ N.length)
    (hb : ∀ (kV doc pm : Value) (an : Option Addr) (cdv ct : Value) (us : List Value), us.length = ps.length → bindArgs (PySem.W.fnOf x x (defArgs st) (defBody st) (defScope st) .none kV doc pm an cdv ct) ⟨us, []⟩ = pure (ps.zip us))
    (hbody : ∀ (f cd : Addr) (A : Around) (outer : List Env) (s : Shared) (H : Hp) (E : XK), Room k (A.deeper (envOfC x (defScope st) s.heap.objs.size f (.ref cd))) → DSs c (XF c N x (defScope st) f cd A outer s H E) E (defBody st) m) : FD c x (k + 1) ps F := by
  subst hF
  exact fd_of D S hl hb hbody
theorem fd_ofTN {c : Ct} {x : Str} {st : Stmt} {N ps : List Str} {k : Nat} {m : Sv} {F : List Dt → Mo Rv} (hF : F = runMo N.length m) (D : Tf c x st) (S : FnScope N ps (defScope st)) (hl : ps.length ≤ N.length)
    (hb : ∀ (kV doc pm : Value) (an : Option Addr) (cdv ct : Value) (us : List Value), us.length = ps.length → bindArgs (PySem.W.fnOf x x (defArgs st) (defBody st) (defScope st) .none kV doc pm an cdv ct) ⟨us, []⟩ = pure (ps.zip us))
    (hbody : ∀ (f cd tb : Addr) (A : Around) (outer : List Env) (s : Shared) (H : Hp) (E : XK), TabB c.base c.mg cd tb → tb ∈ c.ts → Room k (A.deeper (envOfC x (defScope st) s.heap.objs.size f (.ref cd))) → DSs c (XF c N x (defScope st) f cd A outer s H E) E (defBody st) m) : FD c x (k + 1) ps F := by
  subst hF
  exact fd_ofT D S hl hb hbody
section
variable {c : Ct} {X : Cx} {E : XK} {e : Expr} {f g h : Ev → Mo Rv} {p : Ev → Mo Bool} {i j : Nat} {pos : Pos} {a b : Expr}
def mAug (i : Nat) (f : Ev → Mo Rv) : Sv := fun env => match env[i]? with
  | some (some (.sh, .int a)) => (f env).bind fun y => match y.2 with
    | .int b => .ok (.nx (env.set i (some (.sh, .int (a + b)))))
    | _ => .no
  | _ => .no
theorem ds_aug {x : Str} {pos' : Pos} (hN : X.N.Nodup) (hi : X.N[i]? = some x) (hx : Loc X.env.scope x) (he : DE c X E e f) (hd : (x == ("__debug__" : Str)) = false := by decide) (hcd : (x == ("__classdict__" : Str)) = false := by decide) (hf : X.fn x = true ∨ X.env.scope.names.lookup x = some .local := by first | exact .inl rfl | exact .inr rfl | assumption) : DS c X E (.AugAssign (.Name x pos') .Add e pos) (mAug i f) := by
  obtain ⟨t, pe, r⟩ := he
  refine ⟨_, ps_aug hN hi hx pe ip_add hf, fun φ as σ H env R => ?_⟩
  unfold mAug
  split
  · rename_i a ea
    obtain ⟨v, s, hv⟩ := R.slot i _ _ ea
    cases rep_int hv
    have T := (r φ as σ H env R).st R (u := fun y H1 D => ipI (fun i j => i + j) (.int a) y H1 fun z H2 => D.nx (σ.set i (some z)) H2) (f := fun y => match y.2 with
      | .int b => .ok (.nx (env.set i (some (.sh, .int (a + b)))))
      | _ => .no) fun y H1 rv _ g1 r1 => ?_
    · exact ⟨fun fw e D q => ⟨_, s, T.ok fw e D q⟩, fun k n e q D => ⟨_, s, T.ex k n e q D⟩⟩
    · have hy := r1.rc R.hid
      obtain ⟨k, d⟩ := rv
      dsimp only at hy ⊢
      split
      · rename_i b _
        rw [repC_int hy]
        exact .nx fun D q => ⟨a, b, rfl, rfl, q as _ H1 (.refl _) ((R.gr g1).setSh (.int _))⟩
      · exact .no
  · exact .no
def KD3 (c : Ct) (x : Str) (tb : List (Str × Dt)) (no : List Str) : Prop := ∃ a es n, c.mg x = some (.ref a) ∧ KDict c.K c.w a es n ∧ (∀ z d, tb.lookup z = some d → ∃ u v, PySem.W.nsIn c.K a z = some (some u) ∧ RelV v u ∧ ∀ H, Rep c H v d) ∧ ∀ z ∈ no, PySem.W.nsIn c.K a z = some none
theorem KD3.one {x : Str} {tb : List (Str × Dt)} {no : List Str} (T : KD3 c x tb no) : KD1 c x tb := by
  obtain ⟨a, es, n, m1, D, T, _⟩ := T
  refine ⟨a, m1, fun z d e => ?_⟩
  obtain ⟨u, v, t1, t2, t3⟩ := T z d e
  exact ⟨v, ⟨es, n, u, D.at_, D.lit, t1, t2⟩, t3⟩
end
end Pm
set_option maxHeartbeats 4000000
namespace Pm
open PySem PySem.Spec PyProof.Rows L2
/-- what the written part says of such an __init__ (f) and its class (C); cc: the cell of __class__, ca: the code object -/
structure SuI (K : PySem.W.Frag) (prog : Program) (mg : Str → Option Value) (C f cc ca : Addr) (fd : FuncData) : Prop where
  ox : OexC K C
  fn : ∃ oc od osl, K.lookup f = some ⟨oc, od, .func fd, osl⟩
  ar : ∃ ar, (fd.params.posonlyargs ++ fd.params.args).head? = some ar ∧ ar.arg = ("self" : Str)
  code : ∃ ccl cdd vs ccs file tf, K.lookup ca = some ⟨ccl, cdd, .fields vs, ccs⟩ ∧ vs[2]? = some (.str file tf) ∧ ((prog.main.file : Str) == file) = true
  cell : ∃ cl cld csl, K.lookup cc = some ⟨cl, cld, .cell (some (.ref C)), csl⟩
  self : PySem.W.mroIn K C (.ref C) = some true
  glob : mg "super" = none
  top : (prog.main.scope.names.lookup ("super" : Str)).isSome = false
  third : PySem.W.nsIn K cStatics "thirdparty.any" = some none
  above : PySem.W.ks_superIn K C C "__init__" = some (some (.builtin "ValueError.__init__"))
  isVE : PySem.W.subIn K (.ref C) (.type "ValueError") = some true
section
variable {X : Cx} {pins : List (Addr × Obj)} {σ : L2.St} {H : Hp} {s : Shared} {C f cc ca a : Addr} {fd : FuncData}
/-- the built-in __init__, bound to the exception, called -/
theorem call_mw {A : Around} {E : Value → Shared → Prop} {u : Addr} {us : List Value} {Q : Value → Shared → Prop} (T : OexC X.K C) (I : Inv X pins σ H s) (e : H a = some (exo a C none)) (hu : s.heap.get? u = some (PySem.W.kxs_mw "ValueError.__init__" a)) (hl : us.length ≤ sizeLine) (h : ∀ s', Inv X pins σ H s' → Q .none s') :
    wpAny (model X.prog X.w) A (call (.ref u) us) Q E s := by
  obtain ⟨nm, q, N, bs, bm, sn, sub, ab, col, dd, k0, k1, k2, k3, k5, hC, hbm⟩ := T.cls
  obtain ⟨t1, ho⟩ := exo_at I.hok e
  obtain ⟨hp, g, d, t, os⟩ := s
  have fin : ∀ h' t2, (∀ b o, b ≠ a → hp.get? b = some o → h'.get? b = some o) → h'.get? a = some (PySem.HandSPX.excO C t2) → Q .none ⟨h', g, d, t, os⟩ := fun h' t2 k hx => by
    have J := I.write (t' := t) (x := a) (e := a) (o := exo a C none) (by rw [e]; exact True.intro) (.inl rfl) k ⟨_, hx⟩ (exo_ok hx)
    have eu : upd H a (exo a C none) = H := by
      funext b
      by_cases hb : b = a
      · rw [hb, upd_same, e]
      · rw [upd_ne hb]
    rw [eu] at J
    exact h _ J
  refine wpAny_call (codeAny_of_tree ?_)
  show wpAny (model X.prog X.w) A.in1 (callAny (.ref u) ⟨us, []⟩) _ _ _
  simp only [callAny]
  refine wpAny_bind (wpAny_load (show (⟨hp, g, d, t, os⟩ : Shared).heap.get? u = _ from hu) ?_)
  simp only [PySem.W.kxs_mw, show (Value.type "method-wrapper" == Value.type "method" || Value.type "method-wrapper" == Value.type "builtin_function_or_method" || Value.type "method-wrapper" == Value.type "method-wrapper") = true by decide, if_true]
  refine PySem.W.KFB.if_so (by decide) ?_
  refine wpAny_bind (PySem.W.check_bound_init PySem.F.excBase_ValueError.toExcCallFacts (I.kIn _ _ hC) ho rfl ?_)
  refine wpAny_bind (wpAny_pure (wpAny_pure ?_))
  refine ⟨plainId_quiet PySem.F.excBase_ValueError.init.plain _, codeAny_builtin PySem.F.excBase_ValueError.initEntry ?_⟩
  exact PySem.W.exc_init_tree (cls := .ref C) (t0 := t1) (dv := none) (c2 := .none) (c3 := .none) (b4 := .bool false) ho hl fun h' k hx _ => fin h' _ k hx
/-- super().__init__(e, ..), the first statement of such an __init__ -/
theorem super_stmt {body : List Stmt} {e : Expr} {es : List Expr} {ta : TA} {p0 p1 p2 p3 p4 : Pos} {pl : Sem Bool} {K1 : Hp → Prop} (SI : SuI X.K X.prog X.mg C f cc ca fd) (I : Inv X pins σ H s) (hfu : X.env.func = some f) (hco : X.env.code = .ref ca) (hcl : X.env.cells.lookup ("__class__" : Str) = some cc)
    (hks : X.env.kindOf "super" = some .globalImplicit) (hkc : X.env.kindOf "__class__" = some .free) (hkl : X.env.kindOf "self" = some .local) (hN : X.N[0]? = some ("self" : Str)) (hs0 : σ[0]? = some (some (.ref a))) (ea : H a = some (exo a C none)) (ha : PA X (e :: es) ta)
    (q : ta σ H fun vs H1 => vs.length ≤ 1000 ∧ H1 a = some (exo a C none) ∧ K1 H1)
    (hc : eval (.Call (.Attribute (.Call (.Name "super" p0) [] [] p1) "__init__" p2) (e :: es) [] p3) X.env = (do
      let ov ← attributeBase (.Call (.Name "super" p0) [] [] p1) "__init__" X.env (eval (.Call (.Name "super" p0) [] [] p1) X.env)
      standAt p2.atName
      let (f, first) ← holding [ov] (getMethod ov "__init__" pl)
      callWith p3 f first (backTo p3 (starEach (e :: es) X.env)) []) := by rfl)
    (he : starEach (e :: es) X.env = (false, eval e X.env) :: starEach es X.env := by rfl) (hpl : (backTo p3 (starEach es X.env)).any (·.1) = false := by rfl) :
    _root_.PySem.wpAt (model X.prog X.w) X.A (.func body X.env) (exec (.Expr (.Call (.Attribute (.Call (.Name "super" p0) [] [] p1) "__init__" p2) (e :: es) [] p3) p4) X.env) (fun fl s' => fl = .next ∧ ∃ H1, Inv X pins σ H1 s' ∧ H1 a = some (exo a C none) ∧ K1 H1) X.xe s := by
  obtain ⟨oc, od, osl, lf⟩ := SI.fn
  obtain ⟨ar, hp, har⟩ := SI.ar
  obtain ⟨ccl, cdd, vs, ccs, file, tf, lcode, hvs, hfile⟩ := SI.code
  obtain ⟨cl, cld, csl, lcell⟩ := SI.cell
  obtain ⟨nm, qn, N, bs, bm, sn, sub, ab, col, dd, k0, k1, k2, k3, k5, hC, hbm⟩ := SI.ox.cls
  obtain ⟨mb, hb1, hb2⟩ := I.mod.blt
  refine PySem.ks_wpAt_Expr_any (hi := I.quiet) ?_
  refine PySem.ks_wpAt_MethodCall (pl := pl) ?_ hc
  refine PySem.ks_wpAt_super_base (env := X.env) hks hkc (by decide) hfu (I.kIn _ _ lf) rfl hp hco (I.kIn _ _ lcode) rfl hvs hfile SI.top ?_
  refine PySem.W.ks_loadName_global I.ok.kind hks (Calls.loadGlobal_builtin (by rw [I.ok.glob]; exact I.mod.glob.keeps I.bk) SI.glob (by rw [I.ok.blt]; exact hb1.keeps I.bk) ((hb2 _ (by decide)).trans (by kernel_rfl)) ⟨rfl, ?_⟩)
  refine wpAny_loadName_free I.ok.kind hkc hcl ⟨_, I.kIn _ _ lcell, rfl⟩ ?_
  obtain ⟨m, hns, hl⟩ := I.loc
  obtain ⟨u, ru, lk⟩ := hl 0 "self" (.ref a) hN hs0 (.inl hkl)
  obtain rfl : u = Value.ref a := ru
  have hm : m "self" = some (.ref a) := by
    rcases lk with ⟨_, z⟩ | ⟨z, _⟩
    · exact z
    · rw [hkl] at z
      rcases z with z | z <;> cases z
  rw [har]
  refine wpAny_loadName_local I.ok.kind hkl hns hm ?_
  obtain ⟨t1, hx⟩ := exo_at I.hok ea
  have hCc := I.kIn _ _ hC
  obtain ⟨hh, g, d, t, os⟩ := s
  refine PySem.ks_wpAny_isType_cls hCc rfl ⟨rfl, ?_⟩
  refine PySem.ks_wpAny_call_super hCc rfl hx rfl (fun c z => by cases z) (PySem.W.looks_mroIn I.kIn SI.self) fun h' so_at k => ?_
  have I2 : Inv X pins σ H ⟨h', g, d, t, os⟩ := I.kept k
  have J2 : PySem.W.InstAt h' a (PySem.HandSPX.excO C t1) C none := ⟨k _ _ hx, rfl, rfl, trivial⟩
  have lI : PySem.W.Looks (model X.prog X.w) h' (isInstance (.ref a) (.type "ValueError")) true := J2.type.andThen (PySem.W.looks_subIn I2.kIn SI.isVE)
  cases hcd : PySem.W.clsIn X.K C with
  | none =>
    have z := SI.above
    unfold PySem.W.ks_superIn at z
    rw [hcd] at z
    cases z
  | some cd =>
    have z := SI.above
    unfold PySem.W.ks_superIn at z
    rw [hcd, Option.bind_some] at z
    refine PySem.W.kxs_getMethod PySem.W.kxs_ValueError so_at (PySem.W.looks_opaque I2.kIn SI.third) (l₀ := cd.mro) (fun A Q E s k q => wpAny_bind ((PySem.W.looks_clsIn I2.kIn hcd) A _ E s k (wpAny_pure q))) rfl I2.kIn z lI (PySem.W.ks_ne I2.kIn J2 hcd) (by decide) ?_
    have I3 : Inv X pins σ H ⟨h'.push (PySem.W.kxs_mw "ValueError.__init__" a), g, d, t + 1, os⟩ := I2.kept (t' := t + 1) fun b u e => Heap.get?_push_of_some _ e
    have I4 : Inv X ((h'.objs.size, PySem.W.kxs_mw "ValueError.__init__" a) :: pins) σ H ⟨h'.push (PySem.W.kxs_mw "ValueError.__init__" a), g, d, t + 1, os⟩ := I3.pins_of fun p hp => by
      rcases List.mem_cons.mp hp with rfl | hp
      · exact ⟨Heap.get?_push_size _ rfl, I2.hok.fresh (Nat.le_refl _), fun z => absurd I2.lt (by rw [← z]; exact Nat.lt_irrefl _), I2.nofs (Nat.le_refl _), fun v z => by cases z⟩
      · exact I3.pin p (List.mem_append_right _ hp)
    show wpAny _ _ (callWith p3 (Value.ref h'.objs.size) [] (backTo p3 (starEach (e :: es) X.env)) []) _ _ _
    have fin := thn (ha.run p3 _ _ σ H _ I4 q) (Q' := fun us s1 => PySem.W.KxsAt "ValueError.__init__" h'.objs.size a s1.heap ∧ wpAny (model X.prog X.w) X.A (call (.ref h'.objs.size) us) (fun _ s' => Flow.next = Flow.next ∧ ∃ H1, Inv X pins σ H1 s' ∧ H1 a = some (exo a C none) ∧ K1 H1) X.xe s1) fun us s1 ⟨vs1, H1, I5, r1, q1, q2, q3⟩ => by
      have pu := (I5.pin _ (List.mem_append_right _ List.mem_cons_self)).1
      refine ⟨pu, call_mw SI.ox I5 q2 pu ?_ fun s' J => ⟨rfl, H1, J.pins_of fun p hp => J.pin p (List.mem_append_right _ (.tail _ hp)), q2, q3⟩⟩
      rw [← Paired.length r1, sizeLine_eq]
      omega
    rw [he] at fin ⊢
    exact PySem.W.kxs_callWith (by show (false || (backTo p3 (starEach es X.env)).any (·.1)) = false; rw [hpl]; rfl) (Calls.evalArgs_plain fin)
end
end Pm
set_option maxHeartbeats 4000000
namespace Pm
open PySem PySem.Spec PyProof.Rows L2
/-- the number of a refused line, as a text, fits -/
def Fits (i : Int) : Prop := i.natAbs.log2 < 1920 ∧ 100 + (Str.ofString (toString i)).length ≤ sizeLine
/-- made at a with the number i -/
def spAt (C : Addr) : Sp := fun vs H Q _ => ∃ (a : Addr) (i : Int), vs = [.ref a, .int i] ∧ Fits i ∧ H a = some (exo a C none) ∧ ∀ dx, H dx = none → dx ≠ a → Q .non (upd (upd H dx (exd dx [("at", .int i)])) a (exo a C (some dx)))
structure ScI (sc : Scope) : Prop where
  kind : sc.kind = .function
  co : sc.isCoroutine = false
  gen : sc.isGenerator = false
  cell : ∀ x ∈ sc.names, x.2 ≠ .cell
  free : ∀ y, sc.names.lookup y = some .free → y = ("__class__" : Str)
  sup : sc.names.lookup ("super" : Str) = some .globalImplicit
  cls : sc.names.lookup ("__class__" : Str) = some .free
  self : sc.names.lookup ("self" : Str) = some .local
  at_ : sc.names.lookup ("at" : Str) = some .local
/-- the context: as cxOf, with the cell of __class__ -/
def cxI (CX : CXT) (P : Program) (w : World) (K : PySem.W.Frag) (mg : Str → Option Value) (base : Heap) (qual : Str) (scope : Scope) (f cc : Addr) (cd : Value) (A : Around) (outer : List Env) (s : Shared) (H : Hp) (E : XK) : Cx where
  prog := P
  w := w
  K := K
  mg := mg
  base := base
  A := A.deeper (PySem.W.ksEnv qual scope s.heap.objs.size f cd cc)
  N := ["self", "at"]
  s_0 := s
  H_0 := H
  env := PySem.W.ksEnv qual scope s.heap.objs.size f cd cc
  outer := outer
  stack := PySem.W.ksEnv qual scope s.heap.objs.size f cd cc :: outer
  ex := []
  calm := true
  fn := fun x => !(x == ("__class__" : Str))
  pn := []
  xe := fun e s' => wpAny (model P w) (A.deeper (PySem.W.ksEnv qual scope s.heap.objs.size f cd cc)) (leaving (PySem.W.ksEnv qual scope s.heap.objs.size f cd cc) e) (fun _ s'' => CX outer H s E e s'') (fun e' s'' => CX outer H s E e' s'') s'
theorem lk1 {x y : Str} {c d : Addr} (h : [((x : Str), c)].lookup y = some d) : y = x ∧ d = c := by
  rw [List.lookup_cons] at h
  cases e : y == x with
  | true =>
    rw [e] at h
    exact ⟨eq_of_beq e, (Option.some.inj h).symm⟩
  | false =>
    rw [e] at h
    cases h
section
variable {CX : CXT} {P : Program} {w : World} {K : PySem.W.Frag} {mg : Str → Option Value} {base : Heap} {k : Nat} {C f cc ca : Addr} {name qual : Str} {params : Arguments} {scope : Scope} {dV kV doc pm ct : Value} {an : Option Addr}
variable {p0 p1 p2 p3 p4 q0 q1 q2 q3 j0 j1 j2 : Pos} {t0 t1 : Option Str}
theorem inv_init {A : Around} {outer : List Env} {s : Shared} {H : Hp} {E : XK} {a : Addr} {i : Int} {us : List Value} {h₀ : Heap} {tk : Nat} {cl : Value} {cld : Option Addr} {csl : Array (Option Value)} (S : ScI scope) (hd : A.handled = none) (e0 : Env0 P w K mg base A outer s H) (r : Vals [.ref a, .int i] us)
    (lcell : K.lookup cc = some ⟨cl, cld, .cell (some (.ref C)), csl⟩) (hns : h₀.Ns s.heap.objs.size (fun x => ((["self", "at"] : List Str).zip us).reverse.lookup x)) (hk : ∀ b o, s.heap.get? b = some o → h₀.get? b = some o) :
    Inv (cxI CX P w K mg base qual scope f cc (.ref ca) A outer s H E) [] [some (.ref a), some (.int i)] H { s with heap := h₀, toks := tk } := by
  have noA : ∀ b : Addr, b ∉ (cxI CX P w K mg base qual scope f cc (.ref ca) A outer s H E).ex := fun b z => absurd (show b ∈ ([] : List Addr) from z) (by simp)
  have lc := e0.mod.kin _ _ lcell
  refine ⟨⟨e0.mod, S.kind, rfl, rfl, Nat.le_refl _, fun y z c h1 h2 => ?_, fun y hy => ?_, fun y c h1 h2 => ?_, fun _ => hd, Around.frames_deeper e0.frames, .inr ⟨rfl, rfl⟩, fun b z => absurd z (noA b), e0.bs, e0.bsz, fun b _ _ => noA b, fun b z => absurd z (noA b), e0.funs, e0.frf⟩,
    rfl, e0.bare, Un.kept hk, ⟨_, hns, fun n y v h1 h2 h3 => ?_⟩, fun y c h => ?_, e0.hok.fresh (Nat.le_refl _), fun y c h => ?_, fun p hp => absurd (show p ∈ ([] : List (Addr × Obj)) from hp) (by simp), e0.hok.kept hk, rfl⟩
  · exact (lk1 h1).1.trans (lk1 h2).1.symm
  · rcases hy with hy | hy
    · exact absurd rfl (S.cell _ (PySem.mem_of_lookup (show scope.names.lookup y = some .cell from hy)))
    · exact ⟨cc, by rw [S.free y hy]; rfl⟩
  · have z := (lk1 h2).1
    subst z
    exact absurd h1 (by show ¬ ((!(("__class__" : Str) == "__class__")) = true); decide)
  · cases r with
    | @cons _ u0 _ us0 r0 r1 =>
      cases r1 with
      | @cons _ u1 _ us1 r2 r3 =>
        cases r3
        match n, h1, h2 with
        | 0, h1, h2 =>
          obtain rfl : y = "self" := (Option.some.inj h1).symm
          obtain rfl : v = .ref a := (Option.some.inj (Option.some.inj h2)).symm
          exact ⟨u0, r0, .inl ⟨S.self, rfl⟩⟩
        | 1, h1, h2 =>
          obtain rfl : y = "at" := (Option.some.inj h1).symm
          obtain rfl : v = .int i := (Option.some.inj (Option.some.inj h2)).symm
          exact ⟨u1, r2, .inl ⟨S.at_, rfl⟩⟩
        | n + 2, h1, h2 => cases h1
  · obtain ⟨_, rfl⟩ := lk1 h
    exact ⟨_, _, hk _ _ (e0.bs _ _ lc).1, rfl⟩
  · obtain ⟨_, rfl⟩ := lk1 h
    exact (e0.bs _ _ lc).2
abbrev ptsI (s1 s2 : Str) (k1 k2 : Nat) (r1 r2 r3 r4 r5 : Pos) : List Expr := [.JoinedStr [.Constant (.str s1) k1 r1, .FormattedValue (.Name "at" r2) (-1) none r3, .Constant (.str s2) k2 r4] r5]
abbrev bodyI (s1 s2 : Str) (k1 k2 : Nat) (r1 r2 r3 r4 r5 p0 p1 p2 p3 p4 q0 q1 q2 q3 : Pos) : List Stmt := [.Expr (.Call (.Attribute (.Call (.Name "super" p0) [] [] p1) "__init__" p2) (ptsI s1 s2 k1 k2 r1 r2 r3 r4 r5) [] p3) p4, .Assign [.Attribute (.Name "self" q0) "at" q1] (.Name "at" q2) q3]
theorem body_run {X : Cx} {H : Hp} {s : Shared} {a : Addr} {i : Int} {fd : FuncData} {s1 s2 : Str} {k1 k2 : Nat} {r1 r2 r3 r4 r5 : Pos} {Q : VK} {body : List Stmt} {pl : Sem Bool} (hc : ∀ env : Env, eval (.Call (.Attribute (.Call (.Name "super" p0) [] [] p1) "__init__" p2) (ptsI s1 s2 k1 k2 r1 r2 r3 r4 r5) [] p3) env = (do
      let ov ← attributeBase (.Call (.Name "super" p0) [] [] p1) "__init__" env (eval (.Call (.Name "super" p0) [] [] p1) env)
      standAt p2.atName
      let (f, first) ← holding [ov] (getMethod ov "__init__" pl)
      callWith p3 f first (backTo p3 (starEach (ptsI s1 s2 k1 k2 r1 r2 r3 r4 r5) env)) [])) (hl1 : s1.length ≤ 40) (hl2 : s2.length ≤ 40) (I : Inv X [] [some (.ref a), some (.int i)] H s) (SI : SuI X.K X.prog X.mg C f cc ca fd) (hfu : X.env.func = some f) (hco : X.env.code = .ref ca) (hcl : X.env.cells.lookup ("__class__" : Str) = some cc)
    (hks : X.env.kindOf "super" = some .globalImplicit) (hkc : X.env.kindOf "__class__" = some .free) (hkl : X.env.scope.names.lookup ("self" : Str) = some .local) (hka : X.env.scope.names.lookup ("at" : Str) = some .local) (n0 : X.N[0]? = some ("self" : Str)) (n1 : X.N[1]? = some ("at" : Str)) (hat : PySem.W.findIn X.K (.ref C) "at" = some none)
    (hf : Fits i) (ea : H a = some (exo a C none)) (q : ∀ dx, H dx = none → dx ≠ a → Q .non (upd (upd H dx (exd dx [("at", .int i)])) a (exo a C (some dx)))) :
    _root_.PySem.wpAt (model X.prog X.w) X.A (.func body X.env) (execs (bodyI s1 s2 k1 k2 r1 r2 r3 r4 r5 p0 p1 p2 p3 p4 q0 q1 q2 q3) X.env) (SP X [] { nx := fun _ H' => Q .non H', rt := Q }) X.xe s := by
  have vat : Vis X.env.scope "at" := .inl hka
  have vself : Vis X.env.scope "self" := .inl hkl
  obtain ⟨hf1, hl⟩ := hf
  have ha : PA X (ptsI s1 s2 k1 k2 r1 r2 r3 r4 r5) _ := pa_cons (pe_joined (.cons pe_str (.cons (pe_fmt (pe_var n1 vat)) (.cons pe_str .nil)))) pa_nil
  have z : (Str.empty : Str).length = 0 := rfl
  refine PySem.ks_wpAt_execs_cons (PySem.ks_wpAt_mono (super_stmt (K1 := fun H1 => H1 = H) (body := body) SI I hfu hco hcl hks hkc hkl n0 rfl ea ha ?_ (hc _) rfl rfl) (fun fl s1 ⟨e, H1, I1, e1, hk⟩ => ?_) fun _ _ z => z)
  · refine ⟨s1, rfl, ?_, .int i, ?_⟩
    · rw [PySem.Str.length_append, z]
      omega
    · refine ⟨rfl, .inr ⟨i, rfl, hf1, _, rfl, ?_, s2, rfl, ?_, ⟨by simp, ea, rfl⟩⟩⟩
      · rw [PySem.Str.length_append, PySem.Str.length_append, z]
        omega
      · rw [PySem.Str.length_append, PySem.Str.length_append, PySem.Str.length_append, z]
        omega
  · subst e
    subst hk
    exact PySem.wpAt_of_wpAny ((pss_one (ps_ost (pe_var n0 vself) (pe_var n1 vat))).run [] s1 _ H1 _ I1 ⟨.int i, rfl, .ref a, rfl, a, C, rfl, SI.ox, hat, .inl ⟨e1, fun dx n ne => q dx n ne⟩⟩)
theorem init_ok {s1 s2 : Str} {k1 k2 : Nat} {r1 r2 r3 r4 r5 : Pos} {pl : Sem Bool} (hc : ∀ env : Env, eval (.Call (.Attribute (.Call (.Name "super" p0) [] [] p1) "__init__" p2) (ptsI s1 s2 k1 k2 r1 r2 r3 r4 r5) [] p3) env = (do
      let ov ← attributeBase (.Call (.Name "super" p0) [] [] p1) "__init__" env (eval (.Call (.Name "super" p0) [] [] p1) env)
      standAt p2.atName
      let (f, first) ← holding [ov] (getMethod ov "__init__" pl)
      callWith p3 f first (backTo p3 (starEach (ptsI s1 s2 k1 k2 r1 r2 r3 r4 r5) env)) [])) (hl1 : s1.length ≤ 40) (hl2 : s2.length ≤ 40) (SI : SuI K P mg C f cc ca (PySem.W.ksFn name qual params (bodyI s1 s2 k1 k2 r1 r2 r3 r4 r5 p0 p1 p2 p3 p4 q0 q1 q2 q3) scope dV kV doc pm an (.ref ca) ct cc)) (hcd : PySem.W.codeIn K (.ref ca) qual = true) (S : ScI scope) (hat : PySem.W.findIn K (.ref C) "at" = some none) :
    FnOk P w K mg base CX (k + 1) f (PySem.W.ksFn name qual params (bodyI s1 s2 k1 k2 r1 r2 r3 r4 r5 p0 p1 p2 p3 p4 q0 q1 q2 q3) scope dV kV doc pm an (.ref ca) ct cc) ["self", "at"] (spAt C) := by
  refine ⟨fun vs H Q E ⟨a, i, e, _⟩ => by rw [e]; rfl, fun A outer s H args us vs Q E hr e0 hb r ⟨a, i, ev, hf, ea, q⟩ => ?_⟩
  subst ev
  have KX : K.In s.heap := e0.mod.kin.keeps fun b o e => (e0.bs b o e).1
  obtain ⟨oc, od, osl, lf⟩ := SI.fn
  obtain ⟨cl, cld, csl, lcell⟩ := SI.cell
  refine PySem.ks_codeAny_call_defAt (binds := (["self", "at"] : List Str).zip us) hr.depth (KX _ _ lf) rfl (e0.mod.nolimit.keeps fun b o e => (e0.bs b o e).1) (PySem.W.codeRec_of KX hcd) rfl hb S.cell (fun ⟨n, v⟩ hy => ?_) (fun h₀ hns hk => ?_) S.co S.gen S.kind
  · have z := (List.of_mem_zip hy).1
    simp only [List.mem_cons, List.not_mem_nil, or_false] at z
    rcases z with rfl | rfl
    · exact S.self
    · exact S.at_
  have I := inv_init (CX := CX) (E := E) (qual := qual) (f := f) (ca := ca) (tk := s.toks + ((["self", "at"] : List Str).zip us).length) S hr.hd e0 r lcell hns hk
  have B := body_run (body := bodyI s1 s2 k1 k2 r1 r2 r3 r4 r5 p0 p1 p2 p3 p4 q0 q1 q2 q3) (k1 := k1) (k2 := k2) (r1 := r1) (r2 := r2) (r3 := r3) (r4 := r4) (r5 := r5) (p0 := p0) (p1 := p1) (p2 := p2) (p3 := p3) (p4 := p4) (q0 := q0) (q1 := q1) (q2 := q2) (q3 := q3) (s1 := s1) (s2 := s2) hc hl1 hl2 I SI rfl rfl rfl S.sup S.cls S.self S.at_ rfl rfl hat hf ea q
  refine PySem.ks_wpAt_mono B (fun fl s' hs => ?_) fun e s' hs => hs
  have fin : ∀ {σ' : L2.St} {H' : Hp} {v : V} {u : Value}, Inv (cxI CX P w K mg base qual scope f cc (.ref ca) A outer s H E) [] σ' H' s' → RelV v u → Q v H' → CE outer P w H s Q u s' :=
    fun {σ' H' v u} J rv q => ⟨v, H', J.os, J.bare, J.base, J.hok, rv, q⟩
  cases fl with
  | ret u =>
    obtain ⟨v, σ', H', J, rv, q⟩ := hs
    exact fin J rv q
  | next =>
    obtain ⟨σ', H', J, q⟩ := hs
    exact fin (v := V.non) (u := Value.none) J rfl q
  | brk =>
    obtain ⟨_, _, _, q⟩ := hs
    exact False.elim q
  | cont =>
    obtain ⟨_, _, _, q⟩ := hs
    exact False.elim q
end
end Pm
set_option maxHeartbeats 4000000
namespace Pm
open PySem PySem.Spec PyProof.Rows L2 GxR GX
variable [LamTab]
instance (i : Int) : Decidable (Fits i) := by unfold Fits; infer_instance
/-- an error of the program's own with a number: its __init__ keeps spAt -/
def ErrI (c : Ct) (x : Str) (k : Nat) : Prop := ∃ C fI fd, c.mg x = some (.ref C) ∧ OexC c.K C ∧ PySem.W.findIn c.K (.ref C) "__init__" = some (some (.ref fI)) ∧ PySem.W.typeIn c.K (.ref fI) = some (.type "function") ∧ FnOk c.P c.w c.K c.mg c.base (CX c.P c.w) k fI fd ["self", "at"] (spAt C) ∧ Binds c.K fd ["self", "at"] []
def mRaiseI (k : Str) (f : Ev → Mo Rv) : Sv := fun env => (f env).bind fun rv => match rv.2 with
  | .int i => if Fits i then .ex k (some i) else .no
  | _ => .no
section
variable {c : Ct} {X : Cx} {E : XK} {e : Expr} {f : Ev → Mo Rv} {pos p1 p3 : Pos} {x : Str} {k : Nat}
theorem ds_raiseI (hc : X.calm = true) (tk : Takes X (fun u d _ H => E u d H)) (R : ErrI c x k) (hr : Room (k + 1) X.A) (he : DE c X E e f) (hP : X.prog = c.P := by rfl) (hw : X.w = c.w := by rfl) (hb : X.base = c.base := by rfl) (hK : X.K = c.K := by rfl) (h4 : X.mg = c.mg := by rfl) (hg : Gl X x := by rfl) (hdb : (x == ("__debug__" : Str)) = false := by decide) (hst : starEach [e] X.env = (false, eval e X.env) :: starEach [] X.env := by rfl) :
    DS c X E (.Raise (some (.Call (.Name x p1) [e] [] p3)) none pos) (mRaiseI x f) := by
  obtain ⟨C, fI, fd, h1, h2, h3, h5, h6, h7⟩ := R
  obtain ⟨t, pe, re⟩ := he
  rw [← hP, ← hw, ← hb, ← hK, ← h4] at h6
  rw [← hK] at h2 h3 h5 h7
  have h1c := h1
  rw [← h4] at h1
  refine ⟨_, ps_raise hc tk (pmk_oex (dvs := []) h2 h3 h5 h6 hr h7 .nil (by rw [hP, hw]; exact px_no) hg h1 (pa_cons pe pa_nil hst) hdb hst rfl), fun φ as σ H env R => ?_⟩
  show Ts c E φ as H (fun D => t σ H fun v H1 => (([v] : List V).length ≤ 1000 ∧ ∀ a, H1 a = none → spAt C (.ref a :: ([v] ++ [])) (upd H1 a (exo a C none)) (fun w H2 => w = .non ∧ ∃ (d : Addr) (fs : List (Str × V)), H2 a = some (exo a C (some d)) ∧ H2 d = some (exd d fs) ∧ H1 d = none ∧ E (.ref C) (some d) (upd (del H2 a) d (.xd fs))) (fun _ _ _ => False))) _
  refine Tr.st R (re φ as σ H env R) fun v H1 rv e1 g r => ?_
  have rc := r.rc R.hid
  generalize rv.2 = d at rc
  cases d with
  | int i =>
    rw [repC_int rc]
    by_cases hf : Fits i
    · show Ts c E φ as H1 _ (if Fits i then Mo.ex x (some i) else Mo.no)
      rw [if_pos hf]
      refine ⟨fun fw ec => (by cases ec), fun k' n ec q D => ?_⟩
      cases ec
      refine ⟨by simp, fun a ha => ⟨a, i, rfl, hf, upd_same, fun dx hd ne => ⟨rfl, dx, [("at", .int i)], upd_same, ?_, ?_, ?_⟩⟩⟩
      · rw [upd_ne ne, upd_same]
      · rw [upd_ne ne] at hd
        exact hd
      · rw [upd_ne ne] at hd
        refine (q.of (R.gr g)) _ _ _ (fun b o eb => .inl ?_) ⟨C, h1c, rfl, dx, rfl, upd_same⟩
        have na : b ≠ a := fun z => by rw [z, ha] at eb; cases eb
        have nd : b ≠ dx := fun z => by rw [z, hd] at eb; cases eb
        rw [upd_ne nd, del_ne na, upd_ne na, upd_ne nd, upd_ne na]
        exact eb
    · show Ts c E φ as H1 _ (if Fits i then Mo.ex x (some i) else Mo.no)
      rw [if_neg hf]
      exact Ts.no
  | _ => exact Ts.no
end
end Pm
set_option maxHeartbeats 4000000
namespace Pm
open PySem PySem.Spec PyProof.Rows L2 GxR GX
variable [LamTab]
section
variable {X : Cx} {pins : List (Addr × Obj)} {σ : L2.St} {H : Hp} {s : Shared}
/-- a lambda of a def whose table is the lambdas' one -/
theorem lam_made {c P : Addr} {pr : Arguments} {body : Expr} {sc : Scope} {pos : Pos} {E : Value → Shared → Prop} {Q : Value → Shared → Prop} (I : Inv X pins σ H s) (TB : LamX.TabB X.base X.mg c P) (hcode : X.env.code = .ref c)
    (hP : LamTab.tab P = some (X.env.qual ++ "<lambda>")) (hT : LamT (X.env.qual ++ "<lambda>") H P) (hdef : defaultsOf pr X.env = ([], [])) (hfree : ∀ y ∈ sc.names, y.2 = .free → ∃ c, X.env.cells.lookup y.1 = some c)
    (h : ∀ (f d : Addr) (pm ctv : Value) (H1 : Hp) (s1 : Shared), Inv X pins σ H1 s1 → Gr H H1 → s1.heap.get? f = some (PySem.W.kla_obj "<lambda>" (X.env.qual ++ "<lambda>") pr body sc (cloFrom X.env.cells sc.names []) pm d ctv) → H1 f = none → f ∉ frs X.stack →
      H1 d = some (LamX.CodeO d (X.env.qual ++ "<lambda>")) → Q (.ref f) s1) :
    wpAny (model X.prog X.w) X.A (eval (.Lambda pr body sc pos) X.env) Q E s := by
  obtain ⟨ps, hTab, tri, good⟩ := hT
  refine PySem.W.kla_eval hdef ?_
  have bP := TB.bm.keeps I.bk
  have at_ := I.hok P _ hTab
  have away : ∀ f, s.heap.objs.size ≤ f → f ∉ frs X.stack := fun f hf z => by
    rcases List.mem_cons.mp (I.stkSub _ z) with e | e
    · have lt := I.lt
      rw [← e] at lt
      exact absurd (Nat.lt_of_lt_of_le lt hf) (Nat.lt_irrefl _)
    · exact I.nofs hf e
  cases ca : codeAmong pos ps.toList with
  | some cv =>
    obtain ⟨d, rfl, hd⟩ := good pos cv ca
    refine PySem.W.kla_makeFunctionHit (mg := X.mg) (c := c) (P := P) (ps := ps) (closure_ok hfree) I.ok.glob (I.mod.glob.keeps I.bk) hcode (TB.code.keeps I.bk) at_ tri ca bP fun ctv h1 tk kp le => ?_
    refine h h1.objs.size d _ ctv H _ (I.kept (t' := tk) fun b o e => Heap.get?_push_of_some _ (kp b o e)) (.refl _) (Heap.get?_push_size _ rfl) (I.hok.fresh le) (away _ le) hd
  | none =>
    refine PySem.W.kla_makeFunction (mg := X.mg) (c := c) (P := P) (ps := ps) (closure_ok hfree) I.ok.glob (I.mod.glob.keeps I.bk) hcode (TB.code.keeps I.bk) at_ tri ca TB.gP bP fun d ctv h1 tk hx ge lt rec tb => ?_
    obtain ⟨_, oc, vs, t, e2, hoc, hd, hv⟩ := rec
    cases e2
    have le : s.heap.objs.size ≤ h1.objs.size := Nat.le_of_lt (Nat.lt_of_le_of_lt ge lt)
    have nD : H d = none := I.hok.fresh ge
    have eL : (ps ++ #[rawInt pos.line, rawInt pos.col, .ref d]).toList = ps.toList ++ [rawInt pos.line, rawInt pos.col, .ref d] := by simp
    have nP : P ≠ d := ne_of_none hTab nD
    have J := LamX.inv_table (q := X.env.qual ++ "<lambda>") (t' := tk) (more := #[rawInt pos.line, rawInt pos.col, .ref d]) (h' := h1.push (PySem.W.kla_obj "<lambda>" (X.env.qual ++ "<lambda>") pr body sc (cloFrom X.env.cells sc.names []) ((X.mg "__name__").getD .none) d ctv)) I hTab
      (fun b o hb e => Heap.get?_push_of_some _ (hx b o hb e)) (Heap.get?_push_of_some _ tb) ge ⟨oc, vs, t, Heap.get?_push_of_some _ hoc, hd, hv⟩
    have g : Gr H (upd (upd H P (.tbl (ps ++ #[rawInt pos.line, rawInt pos.col, .ref d]))) d (LamX.CodeO d (X.env.qual ++ "<lambda>"))) := fun b o e => by
      have nb : b ≠ d := ne_of_none e nD
      by_cases hb : b = P
      · subst hb
        rw [hTab] at e
        cases e
        refine .inr ⟨ps, _, rfl, by rw [upd_ne nb, upd_same], fun z => by rw [eL]; exact PySem.TriplesOk_snoc _ _ _ _ z, fun p' cv hcv => ?_⟩
        rw [eL] at hcv
        rcases LamX.among_app _ tri hcv with z | z
        · exact .inl z
        · exact .inr (.inl ⟨_, hP, d, z, by rw [upd_same]⟩)
      · exact .inl (by rw [upd_ne nb, upd_ne hb]; exact e)
    refine h h1.objs.size d _ ctv _ _ J g (Heap.get?_push_size _ rfl) ?_ (away _ le) upd_same
    have lp : P < s.heap.objs.size := Heap.lt_size at_
    rw [upd_ne (Nat.ne_of_gt lt), upd_ne (Nat.ne_of_gt (Nat.lt_of_lt_of_le lp le))]
    exact I.hok.fresh le
end
/-- x(lambda: body): T what x makes of the lambda's reading -/
def tLamX (TT : (XK → Hp → VK → Prop) → Hp → VK → Prop) (t : XK → TE) : TE := fun σ H Q => (∀ p q, LamTab.tab p = some q → LamT q H p) ∧ ∀ H1, Gr H H1 → TT (fun E H' Q' => t E σ H' Q') H1 Q
theorem pe_lamX {X : Cx} {TT : (XK → Hp → VK → Prop) → Hp → VK → Prop} {x a : Str} {g c P : Addr} {k : Nat} {pg : Arguments} {bg : List Stmt} {sg : Scope} {dV kV doc pm cdv ct oc : Value} {an od : Option Addr} {osl : Array (Option Value)} {Ng : List Str}
    {pr : Arguments} {body : Expr} {sc : Scope} {t : XK → TE} {p lpos pos : Pos} (hg : Gl X x) (hm : X.mg x = some (.ref g)) (hk : PySem.W.keepIn X.K (.ref g) = true)
    (lk : X.K.lookup g = some ⟨oc, od, .func (PySem.W.fnOf x x pg bg sg dV kV doc pm an cdv ct), osl⟩) (hcg : PySem.W.codeIn X.K cdv x = true) (hb : L2.Binds X.K (PySem.W.fnOf x x pg bg sg dV kV doc pm an cdv ct) [a] []) (Sg : FnScope Ng [a] sg) (hNg : Ng[0]? = some a) (hva : Vis sg a)
    (hG : LamX.GivesTo X Ng x sg g cdv bg a (X.env.qual ++ "<lambda>") TT)
    (TB : LamX.TabB X.base X.mg c P) (hcode : X.env.code = .ref c) (hP : LamTab.tab P = some (X.env.qual ++ "<lambda>")) (hr : Room (k + 2) X.A) (L : LamX.LamS X.env.scope sc) (hdef : defaultsOf pr X.env = ([], []))
    (hbind : ∀ (q : Str) (cl : List (Str × Addr)) (pm cv ctv : Value), bindArgs (PySem.W.kla_fn "<lambda>" q pr body sc cl pm cv ctv) ⟨[], []⟩ = pure [])
    (hbody : ∀ (A : Around) (outer : List Env) (s : Shared) (H : Hp) (E : XK) (f d : Addr), Room k (A.deeper (LamX.lamEnv X sc s.heap.objs.size f d)) → PE (LamX.lamCx X A outer s H E sc f d) body (t E))
    (hdb : (x == ("__debug__" : Str)) = false := by decide) (hd : (a == ("__debug__" : Str)) = false := by decide) (hcd : (a == ("__classdict__" : Str)) = false := by decide) :
    PE X (.Call (.Name x p) [.Lambda pr body sc lpos] [] pos) (tLamX TT t) := by
  refine ⟨fun pins s σ H Q I ⟨hT, h⟩ => wpAny_Call_Name_kw (ld_glob I hg hm ?_ hdb)⟩
  refine PySem.W.callWith_K (h₀ := X.base) I.ok.mod.kin hk ?_ (by rfl) (by rfl)
  show wpAny _ _ (spliced ((false, eval (.Lambda pr body sc lpos) X.env) :: backTo pos (starEach [] X.env))) _ _ s
  refine Calls.spliced_cons (lam_made I TB hcode hP (hT P _ hP) hdef (L.has I.ok) fun f d pm' ctv H1 s1 J gr hf hfn hfr hco => Calls.spliced_nil ⟨J.kIn, ?_⟩)
  have rc : codeAny (model X.prog X.w) X.A (.call (.ref g) ⟨[.ref f], []⟩) (CR C8.CX0 X.stack X.prog X.w H1 s1 Q C8.E0) s1 := by
    refine LamX.run_ofS (N := Ng) (ps := [a]) (us := [.ref f]) (vs := [.ref f]) lk hcg Sg hr J.env0 (hb s1 [.ref f] J.kIn rfl) (.cons rfl .nil) rfl fun hr1 => ?_
    obtain ⟨t1, ht, hq1⟩ := hG f d s1 H1 Q (fun E H' Q' => t E σ H' Q') (fun W pn xe E p1 p2 tk hW => LamX.pe_act (i := 0) J L hf hfn hfr (hbind _ _ _ _ _) tk hW hr1 (fun A outer s H hr2 => hbody A outer s H E f d hr2) hNg hva hd hcd) hco (h H1 gr)
    exact ⟨t1, ht.nox, hq1⟩
  refine wpAny_call (codeAny_mono rc fun r s2 hq2 => ?_)
  match r, hq2 with
  | .error e, hq2 => exact (show False from hq2).elim
  | .ok (.ret u), hq2 => exact J.after hq2
  | .ok .next, hq2 => exact hq2.elim
  | .ok .brk, hq2 => exact hq2.elim
  | .ok .cont, hq2 => exact hq2.elim
end Pm
set_option maxHeartbeats 4000000
set_option maxHeartbeats 4000000
set_option maxHeartbeats 4000000
namespace Pm
open PySem PySem.Spec PyProof.Rows L2 GxR GX
variable [LamTab]
/-- the def at f keeps this promise -/
def OkA (c : Ct) (f : Addr) (k : Nat) (ps : List Str) (sp : Sp) : Prop := ∃ fd, FnOk c.P c.w c.K c.mg c.base CX0 k f fd ps sp ∧ PySem.W.keepIn c.K (.ref f) = true ∧ Binds c.K fd ps []
theorem Ok.at {c : Ct} {x : Str} {k : Nat} {ps : List Str} {sp : Sp} (h : Ok c x k ps sp) : ∃ f, OkA c f k ps sp ∧ c.mg x = some (.ref f) := let ⟨f, fd, F, hm, kp, hb⟩ := h; ⟨f, ⟨fd, F, kp, hb⟩, hm⟩
end Pm
set_option maxHeartbeats 4000000
set_option maxHeartbeats 4000000
namespace Pm
open PySem PySem.Spec PyProof.Rows L2 GxR GX
variable [LamTab]
theorem Fit.mono {n : Nat} : ∀ {d : PyData}, Fit (n + 1) d → Fit n d := by
  induction n with
  | zero => exact fun _ => trivial
  | succ n ih => exact fun h => ⟨h.1, fun ds e x hx => ih (h.2.1 ds e x hx), fun ds e x hx => ih (h.2.2 ds e x hx)⟩
end Pm
set_option maxHeartbeats 4000000
set_option maxHeartbeats 4000000
set_option maxHeartbeats 4000000
namespace Pm
open PySem PySem.Spec PyProof.Rows L2 GxR GX
variable [LamTab]
def sumWords : List Str := ["add", "sub", "mul", "less", "same"]
theorem w1 : ∀ w ∈ stepWords ++ endWords ++ sumWords, w.length ≤ 4 := by decide +kernel
end Pm
set_option maxHeartbeats 4000000
set_option maxHeartbeats 4000000
set_option maxHeartbeats 4000000
namespace Pm
open PySem PySem.Spec PyProof.Rows L2 GxR GX
variable [LamTab]
variable {c : Ct} {C : Addr}
theorem shaped_ints (ns : List Int) : SeqAt.shaped (.list (ns.map PyData.int)) = true ∧ SeqAt.shaped (.tuple (ns.map PyData.int)) = true := by
  have h : PyData.canLayAll0 (ns.map PyData.int) = true ∧ PyData.depthAll (ns.map PyData.int) ≤ 1 := by
    induction ns with
    | nil => exact ⟨rfl, Nat.zero_le _⟩
    | cons n r ih =>
      refine ⟨?_, ?_⟩
      · show (PyData.canLay0 (.int n) && PyData.canLayAll0 (r.map PyData.int)) = true
        rw [ih.1]; rfl
      · simp only [List.map_cons, PyData.depthAll, PyData.depth]
        omega
  refine ⟨?_, ?_⟩ <;>
  · unfold SeqAt.shaped
    rw [Bool.and_eq_true]
    refine ⟨h.1, decide_eq_true ?_⟩
    simp only [PyData.depth]
    omega
def ScrAt (c : Ct) (H : Hp) (a : Addr) : Prop := ∃ ss : List Int, SqL c.K H a (ss.map V.int) ∧ ss.length ≤ 63
theorem ScrAt.gr {H H' : Hp} {a : Addr} (h : ScrAt c H a) (g : Gr H H') : ScrAt c H' a := let ⟨ss, s, l⟩ := h; ⟨ss, g.sqL s, l⟩
end Pm
set_option maxHeartbeats 4000000
set_option maxHeartbeats 4000000
namespace Pm
open PySem PySem.Spec PyProof.Rows L2 GxR GX
variable [LamTab]
variable {c : Ct} {C : Addr}
def hide (H : Hp) (M : Addr) : Hp := fun b => if b = M then none else H b
end Pm
set_option maxHeartbeats 4000000
namespace Pm
open PySem PySem.Spec PyProof.Rows L2 GxR GX
variable [LamTab]
def tD (c : Ct) (E : XK) (f : Ev → Mo Rv) : TE := fun σ H Q => ∃ φ as env, Rel c φ as σ H env ∧
  ((∃ b, f env = .ok b ∧ ∀ v H', Gr H H' → RvR c as H H' v b → Q v H') ∨ ∃ k n, f env = .ex k n ∧ ∀ H' u d, Gr H H' → ExR c H' u d k n → E u d H')
theorem DE.pd {c : Ct} {X : Cx} {E : XK} {e : Expr} {f : Ev → Mo Rv} (h : DE c X E e f) : PE X e (tD c E f) := by
  obtain ⟨t, p, r⟩ := h
  refine ⟨fun pins s σ H Q I q => p.run pins s σ H Q I ?_⟩
  obtain ⟨φ, as, env, R, q⟩ := q
  rcases q with ⟨b, e1, q⟩ | ⟨k, n, e1, q⟩
  · exact (r φ as σ H env R).ok b e1 Q q
  · exact (r φ as σ H env R).ex k n e1 q Q
end Pm
set_option maxHeartbeats 4000000
namespace Pm
open PySem PySem.Spec PyProof.Rows L2 GxR GX
variable [LamTab]
abbrev n_law_at : List Str := ["_law_deed", "e"]
theorem zc_law_at : FnScope n_law_at ["_law_deed"] (defScope s_law_at) := ⟨rfl, rfl, rfl, by decide +kernel, rfl, by decide +kernel, by decide +kernel⟩
theorem at_body : ∃ p1 p2 p3 p4 p5 p6 p7 p8 p9 p10, defBody s_law_at = [.Try [.Return (some (.List [.Call (.Name "_law_deed" p1) [] [] p2] p3)) p4] [.ExceptHandler (some (.Name "NoLine" p5)) (some "e")
    [.Return (some (.Attribute (.Name "e" p6) "at" p7)) p8] p9] [] [] p10] := ⟨_, _, _, _, _, _, _, _, _, _, rfl⟩
/-- NoLine, as the clause sees it -/
def ErrA (c : Ct) : Prop := ∃ C, c.mg "NoLine" = some (.ref C) ∧ PySem.W.exmOne c.K (.ref C) (.ref C) = some true ∧ XfC c.K C ∧ PySem.W.findIn c.K (.ref C) "at" = some none
def TTa (c : Ct) : (XK → Hp → VK → Prop) → Hp → VK → Prop := fun tl H Q => tl (fun u d H' => ∃ i, ExR c H' u d "NoLine" (some i) ∧ Q (.int i) H') H (fun v H' => ([v] : List V).length ≤ sizeLine ∧ ∀ p, H' p = none → Q (.ref p) (upd H' p (.lst [v])))
theorem at_gives {c : Ct} {X : Cx} {g : Addr} {cdg : Value} {q : Str} (EA : ErrA c) (hK : X.K = c.K) (hm4 : X.mg = c.mg) :
    LamX.GivesTo X n_law_at "_law_at" (defScope s_law_at) g cdg (defBody s_law_at) "_law_deed" q (TTa c) := by
  obtain ⟨CS, hme, hex, hxf, hno⟩ := EA
  obtain ⟨p1, p2, p3, p4, p5, p6, p7, p8, p9, p10, eb⟩ := at_body
  intro f c' s H Q tl act hc h
  rw [eb]
  refine ⟨_, pss_one (ps_try_as (X := (cxOf C8.CX0 X.prog X.w X.K X.mg X.base n_law_at "_law_at" (defScope s_law_at) g cdg X.A X.stack s H C8.E0).nox) (c := .ref CS) (i := 1) (n := "e") (Wout := fun _ _ _ _ => False)
      (tb := fun W D σ H => ∃ Ech : XK, (∀ cls d σ' H', Ech cls d H' → W cls d σ' H') ∧ σ[0]? = some (some (.ref f)) ∧ H c' = some (LamX.CodeO c' q) ∧ tl Ech H (fun v H' => ([v] : List V).length ≤ sizeLine ∧ ∀ p, H' p = none → D.rt (.ref p) (upd H' p (.lst [v]))))
      (ts := fun a cls d D σ H => ∀ oe, Zc cls d oe → (∃ vs, oe.data = .fields vs) → σ.length = 2 → tXf a cls d CS "at" (tVar 1) σ H D.rt)
      rfl rfl zc_law_at.nd rfl rfl ⟨by rfl, by decide, .inl (by rw [← hm4] at hme; exact hme)⟩ LamX.takes0 (fun W pn xe tk _ => ⟨fun pins s' σ H' D I ⟨Ech, hW, h1, h2, h3⟩ => (pss_one (ps_ret (pos := p4) (pe_lst (pos := p3) (pa_cons (act W pn xe Ech p1 p2 tk hW) pa_nil)))).run pins s' σ H' D I ⟨h1, h2, h3⟩⟩) fun a oe cls d pn hz hf => ⟨fun pins s' σ H' D I h => ?_⟩), ?_⟩
  · exact (pss_one (ps_ret (pos := p8) (pe_xf (X := (cxOf C8.CX0 X.prog X.w X.K X.mg X.base n_law_at "_law_at" (defScope s_law_at) g cdg X.A X.stack s H C8.E0).nox) (a := a) (C := CS) (oe := oe) (pn := pn) (pos := p7) (by show XfC X.K CS; rw [hK]; exact hxf) (by show PySem.W.findIn X.K _ _ = _; rw [hK]; exact hno) hz hf (pe_var (i := 1) (pos := p6) rfl (.inl (by rfl)) (by decide) (by decide))))).run pins s' σ H' D I (h oe hz hf I.len)
  · refine ⟨fun u d H' => ∃ i, ExR c H' u d "NoLine" (some i) ∧ Q (.int i) H', fun cls d σ' H' ⟨i, ⟨C, hC, hcls, dx, hd, hx⟩, q⟩ => ?_, rfl, hc, h⟩
    rw [hme] at hC
    cases hC
    subst hcls
    refine ⟨true, by show PySem.W.exmOne X.K _ _ = _; rw [hK]; exact hex, fun _ a na oe hz hf len => ?_, fun z => by cases z⟩
    have len' : σ'.length = 2 := by rw [List.length_set] at len; exact len
    exact ⟨.ref a, by rw [List.getElem?_set_self (by omega)], rfl, rfl, dx, _, _, hd, hx, rfl, q⟩
def eLawAt (f : Ev → Mo Rv) : Ev → Mo Rv := fun env => match f env with
  | .ok rv => if keepK rv = true then .ok (.nw, .lst [rv.2]) else .no
  | .ex k (some i) => if k = ("NoLine" : Str) then .ok (.sh, .int i) else .no
  | _ => .no
theorem rf_at {c : Ct} {E : XK} {f : Ev → Mo Rv} (hts : ∃ P, P ∈ c.ts) : RfE c E (tLamX (TTa c) fun E' => tD c E' f) (eLawAt f) := fun φ as σ H env R => by
  obtain ⟨P, hP⟩ := hts
  obtain ⟨_, _, ⟨_, _, lam⟩, _⟩ := R.tabsF P hP
  refine ⟨fun rv e Q q => ⟨lam, fun H1 g => ?_⟩, fun k n e => ?_⟩
  · have R1 := R.gr g
    refine ⟨φ, as, env, R1, ?_⟩
    unfold eLawAt at e
    split at e
    · rename_i rv2 e1
      split at e
      · rename_i hk
        cases e
        refine .inl ⟨_, e1, fun v H' g1 r => ⟨by simp; exact small6 (by decide), fun p np => q _ _ ((g.trans g1).trans (.new np)) ?_⟩⟩
        exact RvR.back (g.trans g1) (rv_lst np (.cons (r.keep R1.hid g1 hk) .nil))
      · cases e
    · rename_i k i e1
      split at e
      · rename_i hk
        subst hk
        cases e
        exact .inr ⟨_, _, e1, fun H' u d g1 x => ⟨i, x, q _ H' (g.trans g1) (.int i)⟩⟩
      · cases e
    · cases e
  · unfold eLawAt at e
    split at e
    · split at e <;> cases e
    · split at e <;> cases e
    · cases e
theorem xpxL {c : Ct} {X : Cx} {A : Around} {outer : List Env} {s : Shared} {H : Hp} {E : XK} {sc : Scope} {f d : Addr} (hP : X.prog = c.P := by rfl) (hw : X.w = c.w := by rfl) : Px c (LamX.lamCx X A outer s H E sc f d) E := by
  show Passes (L2.CX c.P c.w) _ _
  rw [← hP, ← hw]
  exact passes_call (X := LamX.lamCx X A outer s H E sc f d) (takes_of rfl rfl rfl rfl) fun _ _ _ _ h => h
/-- _law_at(lambda: body) -/
theorem de_at {c : Ct} {X : Cx} {E : XK} {fn : Ev → Mo Rv} {k : Nat} {cd P : Addr} {pr : Arguments} {body : Expr} {sc : Scope} {p lpos pos : Pos} (EA : ErrA c) (DT : Df c "_law_at" s_law_at) (hts : ∃ P, P ∈ c.ts)
    (TB : LamX.TabB c.base c.mg cd P) (hLP : LamTab.tab P = some (X.env.qual ++ "<lambda>")) (hr : Room (k + 2) X.A)
    (hbody : ∀ (A : Around) (outer : List Env) (s : Shared) (H : Hp) (E : XK) (f d : Addr), Room k (A.deeper (LamX.lamEnv X sc s.heap.objs.size f d)) → DE c (LamX.lamCx X A outer s H E sc f d) E body fn)
    (hcode : X.env.code = .ref cd := by rfl) (L : LamX.LamS X.env.scope sc := by exact LamX.lamS_by (by kernel_rfl)) (hdef : defaultsOf pr X.env = ([], []) := by rfl)
    (hbind : ∀ (q : Str) (cl : List (Str × Addr)) (pm cv ctv : Value), bindArgs (PySem.W.kla_fn "<lambda>" q pr body sc cl pm cv ctv) ⟨[], []⟩ = pure [] := by intros; rfl)
    (h1 : X.prog = c.P := by rfl) (h2 : X.w = c.w := by rfl) (h3 : X.K = c.K := by rfl) (h4 : X.mg = c.mg := by rfl) (h5 : X.base = c.base := by rfl) (hg : Gl X "_law_at" := by rfl) :
    DE c X E (.Call (.Name "_law_at" p) [.Lambda pr body sc lpos] [] pos) (eLawAt fn) := by
  obtain ⟨g, fg, cg, ⟨oc, od, dV, kV, doc, pm, an, ct, osl, rfl, lk, hcg, hD, _⟩, kp, hm⟩ := DT
  have e : dV = .none := by
    rcases hD with ⟨_, e⟩ | ⟨e, _⟩
    · exact e
    · exact absurd rfl e
  subst e
  have b : L2.Binds X.K (PySem.W.fnOf "_law_at" "_law_at" (defArgs s_law_at) (defBody s_law_at) (defScope s_law_at) .none kV doc pm an (.ref cg) ct) ["_law_deed"] [] := .all fun us hl => match us, hl with | [_], _ => rfl
  refine ⟨_, pe_lamX (X := X) (TT := TTa c) (x := "_law_at") (a := "_law_deed") (g := g) (c := cd) (P := P) (Ng := n_law_at) (k := k) (t := fun E' => tD c E' fn) hg (by rw [h4]; exact hm) (by rw [h3]; exact kp) (by rw [h3]; exact lk) (by rw [h3]; exact hcg) b zc_law_at rfl (.inl (by decide +kernel))
    (at_gives EA h3 h4) (by rw [h4, h5]; exact TB) hcode hLP hr L hdef hbind fun A outer s H E f d hr2 => (hbody A outer s H E f d hr2).pd, rf_at hts⟩
end Pm
set_option maxHeartbeats 4000000
namespace He
open PySem PySem.Spec PyProof.Rows L2
/-- all that is named in such objects, n steps deep -/
def behindA (g : Addr → Option Obj) : Nat → List Addr → List Addr
  | 0, as => as
  | n + 1, as => as ++ behindA g n (as.flatMap fun a => match g a with
    | some o => refsD o
    | none => [])
def nsOf (g : Addr → Option Obj) (a : Addr) : List Addr := match g a with
  | some ⟨_, _, .cls cd, _⟩ => [cd.ns]
  | _ => []
/-- two steps from the module's names, and three from what the classes x hold -/
def asC (x : List Str) (g : Addr → Option Obj) : List Addr := asD g 2 ++ x.flatMap fun y => behindA g 2 (nsOf g (ga (frT g [mainGlobals]) y))
section
variable (x : List Str) (fa : List Fa) (fn : List DefD) (ts : List Tab) (tf : List Defn) (ex : PySem.W.Frag → Bool)
variable {fa fn ts tf ex}
theorem saysA_of {w : World} {h : Heap} {as : List Addr} (e1 : obsT fa fn ts (frT h.get? as) = valT fn ts w) (e2 : (ex (frT h.get? as) && tabsB h.get? tf (frT h.get? as)) = true) : SaysX fa fn ts tf ex w h (frT h.get? as) := by
  obtain ⟨h1, h2⟩ := ba e2
  have one : ∀ p ∈ tf, PySem.W.codeHdIn (frT h.get? as) (cT (frT h.get? as) p).1 (cT (frT h.get? as) p).2 = true ∧ ∃ o, h.get? (cT (frT h.get? as) p).2 = some o ∧ emptyTab o = true := fun p hp => by
    obtain ⟨h3, h4⟩ := ba (List.all_eq_true.mp h2 p hp)
    refine ⟨h3, ?_⟩
    generalize h.get? (cT (frT h.get? as) p).2 = u at h4
    cases u with
    | none => cases h4
    | some o => exact ⟨o, rfl, h4⟩
  refine ⟨e1, h1, fun p hp => (one p hp).1, fun p hp => ?_, fun p hp => ?_⟩
  · obtain ⟨_, o, q, z⟩ := one p hp
    exact frT_none q z
  · obtain ⟨_, o, q, z⟩ := one p hp
    rw [q, emptyTab_eq z]
variable (fa fn ts tf ex)
variable {x fa fn ts tf ex}
end
end He
namespace Pm
open PySem PySem.Spec PyProof.Rows L2 GxR GX
def fdOf (K : PySem.W.Frag) (a : Addr) : Option FuncData := match K.lookup a with
  | some ⟨_, _, .func fd, _⟩ => some fd
  | _ => none
theorem fdOf_ok {K : PySem.W.Frag} {a : Addr} {fd : FuncData} (h : fdOf K a = some fd) : ∃ oc od osl, K.lookup a = some ⟨oc, od, .func fd, osl⟩ := by
  unfold fdOf at h
  split at h
  · rename_i oc od fd' osl e
    cases h
    exact ⟨_, _, _, e⟩
  · cases h
abbrev nlC (K : PySem.W.Frag) : Addr := He.ga K "NoLine"
abbrev nlF (K : PySem.W.Frag) : Addr := He.ma K (nlC K) "__init__"
abbrev IniW : Type := Option (Str × Str × Arguments × FuncBody × Scope × Addr × List Str × Addr)
def iniW (K : PySem.W.Frag) : IniW := (fdOf K (nlF K)).map fun fd => (fd.name, fd.qualname, fd.params, fd.body, fd.scope, fd.globals, fd.closure.map (·.1), fd.builtins)
def iniV : IniW := some ("__init__", "NoLine.__init__", defArgs s_NoLine_init, .stmts (defBody s_NoLine_init), defScope s_NoLine_init, mainGlobals, ["__class__"], builtinsNs)
def mroB (C : Addr) : List Value → Bool
  | .ref C' :: bm => decide (C' = C) && PySem.HandSPX.refsVE bm
  | _ => false
theorem mroB_ok {C : Addr} : ∀ {l : List Value}, mroB C l = true → ∃ bm, l = .ref C :: bm ∧ PySem.HandSPX.refsVE bm = true := fun {l} h => by
  unfold mroB at h
  split at h
  · rename_i C' bm
    obtain ⟨a, b⟩ := He.ba h
    rw [of_decide_eq_true a]
    exact ⟨bm, rfl, b⟩
  · cases h
def slB : List (Option Value) → Bool
  | [_, _, _, _, some (.builtin n), _] => decide (n = "ValueError.__new__")
  | _ => false
theorem slB_ok : ∀ {l : List (Option Value)}, slB l = true → ∃ k0 k1 k2 k3 k5, l = [k0, k1, k2, k3, some (.builtin "ValueError.__new__"), k5] := fun {l} h => by
  unfold slB at h
  split at h
  · rename_i k0 k1 k2 k3 n k5
    rw [of_decide_eq_true h]
    exact ⟨_, _, _, _, _, rfl⟩
  · cases h
def oexB (K : PySem.W.Frag) (C : Addr) : Bool := match K.lookup C with
  | some ⟨cl, _, .cls cd, sl⟩ => decide (cl = .type "type") && (mroB C cd.mro && (slB sl.toList && (cd.hasDict && !cd.hasDel)))
  | _ => false
theorem oexB_ok {K : PySem.W.Frag} {C : Addr} (h : oexB K C = true) : ∃ nm q N bs bm sn sub ab col dd k0 k1 k2 k3 k5, K.lookup C = some (excClassObj nm q C N bs bm true sn sub ab col dd k0 k1 k2 k3 k5 "ValueError.__new__") ∧ PySem.HandSPX.refsVE bm = true := by
  unfold oexB at h
  split at h
  · rename_i cl dd cd sl e
    obtain ⟨h1, h⟩ := He.ba h
    obtain ⟨h2, h⟩ := He.ba h
    obtain ⟨h3, h⟩ := He.ba h
    obtain ⟨h4, h5⟩ := He.ba h
    have e1 := of_decide_eq_true h1
    subst e1
    obtain ⟨bm, e2, b⟩ := mroB_ok h2
    obtain ⟨k0, k1, k2, k3, k5, e3⟩ := slB_ok h3
    obtain ⟨sl⟩ := sl
    dsimp only at e3
    subst e3
    cases cd
    dsimp only at e2 h4 h5
    subst e2 h4
    rw [Bool.not_eq_true'] at h5
    subst h5
    exact ⟨_, _, _, _, bm, _, _, _, _, _, _, _, _, _, _, e, b⟩
  · cases h
def strFB (file : Str) : Option Value → Bool
  | some (.str f _) => file == f
  | _ => false
theorem strFB_ok {file : Str} {o : Option Value} (h : strFB file o = true) : ∃ f tf, o = some (.str f tf) ∧ (file == f) = true := by
  unfold strFB at h
  split at h
  · exact ⟨_, _, rfl, h⟩
  · cases h
def codeFileB (K : PySem.W.Frag) (cv : Value) (file : Str) : Bool := match cv with
  | .ref ca => (match K.lookup ca with
    | some ⟨_, _, .fields vs, _⟩ => strFB file vs[2]?
    | _ => false)
  | _ => false
theorem codeFileB_ok {K : PySem.W.Frag} {cv : Value} {file : Str} (h : codeFileB K cv file = true) : ∃ ca ccl cdd vs ccs f tf, cv = .ref ca ∧ K.lookup ca = some ⟨ccl, cdd, .fields vs, ccs⟩ ∧ vs[2]? = some (.str f tf) ∧ (file == f) = true := by
  unfold codeFileB at h
  split at h
  · rename_i ca
    split at h
    · rename_i ccl cdd vs ccs e
      obtain ⟨f, tf, e2, e3⟩ := strFB_ok h
      exact ⟨ca, _, _, vs, _, f, tf, rfl, e, e2, e3⟩
    · cases h
  · cases h
def cellB (K : PySem.W.Frag) (C : Addr) : List (Str × Addr) → Bool
  | [(_, cc)] => (match K.lookup cc with
    | some ⟨_, _, .cell (some (.ref D)), _⟩ => decide (D = C)
    | _ => false)
  | _ => false
theorem cellB_ok {K : PySem.W.Frag} {C cc : Addr} {x : Str} (h : cellB K C [(x, cc)] = true) : ∃ cl cld csl, K.lookup cc = some ⟨cl, cld, .cell (some (.ref C)), csl⟩ := by
  unfold cellB at h
  dsimp only at h
  split at h
  · rename_i cl cld D csl e
    have e1 := of_decide_eq_true h
    subst e1
    exact ⟨_, _, _, e⟩
  · cases h
def nlFB (K : PySem.W.Frag) (file : Str) : Option FuncData → Bool
  | some fd => PySem.W.codeIn K fd.code "NoLine.__init__" && (He.dflB K fd.defaults [.int 0] && (codeFileB K fd.code file && cellB K (nlC K) fd.closure))
  | none => false
def nlB (file : Str) (K : PySem.W.Frag) : Bool := nlFB K file (fdOf K (nlF K)) && (oexB K (nlC K) && (decide (PySem.W.findIn K (.ref (nlC K)) "__setattr__" = some (some (.builtin "object.__setattr__"))) && (decide (PySem.W.typeIn K (.ref (nlC K)) = some (.type "type")) && (PySem.W.keepIn K (.ref (nlC K)) &&
  (decide (PySem.W.findIn K (.ref (nlC K)) "__init__" = some (some (.ref (nlF K)))) && (decide (PySem.W.typeIn K (.ref (nlF K)) = some (.type "function")) && (decide (PySem.W.mroIn K (nlC K) (.ref (nlC K)) = some true) && (decide (PySem.W.nsIn K cStatics "thirdparty.any" = some none) &&
  (decide (PySem.W.ks_superIn K (nlC K) (nlC K) "__init__" = some (some (.builtin "ValueError.__init__"))) && (decide (PySem.W.subIn K (.ref (nlC K)) (.type "ValueError") = some true) && (decide (PySem.W.exmOne K (.ref (nlC K)) (.ref (nlC K)) = some true) && (xfB K (nlC K) && decide (PySem.W.findIn K (.ref (nlC K)) "at" = some none)))))))))))))
structure NlK (K : PySem.W.Frag) (file : Str) : Prop where
  fn : ∃ fd, fdOf K (nlF K) = some fd ∧ PySem.W.codeIn K fd.code "NoLine.__init__" = true ∧ He.dflB K fd.defaults [.int 0] = true ∧ codeFileB K fd.code file = true ∧ cellB K (nlC K) fd.closure = true
  ox : oexB K (nlC K) = true
  sa : PySem.W.findIn K (.ref (nlC K)) "__setattr__" = some (some (.builtin "object.__setattr__"))
  ty : PySem.W.typeIn K (.ref (nlC K)) = some (.type "type")
  kp : PySem.W.keepIn K (.ref (nlC K)) = true
  ini : PySem.W.findIn K (.ref (nlC K)) "__init__" = some (some (.ref (nlF K)))
  tf : PySem.W.typeIn K (.ref (nlF K)) = some (.type "function")
  self : PySem.W.mroIn K (nlC K) (.ref (nlC K)) = some true
  third : PySem.W.nsIn K cStatics "thirdparty.any" = some none
  above : PySem.W.ks_superIn K (nlC K) (nlC K) "__init__" = some (some (.builtin "ValueError.__init__"))
  isVE : PySem.W.subIn K (.ref (nlC K)) (.type "ValueError") = some true
  exm : PySem.W.exmOne K (.ref (nlC K)) (.ref (nlC K)) = some true
  xf : XfC K (nlC K)
  at_ : PySem.W.findIn K (.ref (nlC K)) "at" = some none
theorem nlB_ok {K : PySem.W.Frag} {file : Str} (h : nlB file K = true) : NlK K file := by
  unfold nlB at h
  simp only [Bool.and_eq_true, decide_eq_true_eq] at h
  obtain ⟨h0, h1, h2, h3, h4, h5, h6, h7, h8, h9, h10, h11, h12, h13⟩ := h
  refine ⟨?_, h1, h2, h3, h4, h5, h6, h7, h8, h9, h10, h11, xfB_ok h12, h13⟩
  cases e : fdOf K (nlF K) with
  | none => rw [e] at h0; cases h0
  | some fd =>
    rw [e] at h0
    unfold nlFB at h0
    simp only [Bool.and_eq_true] at h0
    exact ⟨fd, rfl, h0⟩
def freeB (l : List (Str × NameKind)) : Bool := l.all fun p => !(p.2 == .free) || p.1 == "__class__"
/-- a dict of the top whose values are whole numbers or None -/
def numsB (K : PySem.W.Frag) (x : Str) (l : List (Str × Option Int)) : Bool := l.all fun q => match PySem.W.nsIn K (He.ga K x) q.1, q.2 with
  | some (some (.int z _)), some i => decide (z = i)
  | some (some .none), none => true
  | _, _ => false
def timesL : List (Str × Option Int) := [("1", some 1), ("2", some 2), ("3", some 3), ("4", some 4), ("5", some 5), ("6", some 6), ("7", some 7), ("8", some 8), ("9", some 9), ("+", none)]
section
variable [LamTab]
variable {c : Ct}
def keysB (K : PySem.W.Frag) (x : Str) (ks : List Str) : Bool := match K.lookup (He.ga K x) with
  | some ⟨_, _, .dict es _, _⟩ => es.toList.all fun e => match e.key with
    | .str k _ => ks.contains k
    | _ => false
  | _ => false
theorem keysB_ok {K : PySem.W.Frag} {x : Str} {ks : List Str} (h : keysB K x ks = true) {z : Str} (hz : z ∉ ks) : PySem.W.nsIn K (He.ga K x) z = some none := by
  unfold keysB at h
  unfold PySem.W.nsIn
  split at h
  · rename_i es _ _ e
    rw [e]
    simp only
    have key : ∀ d ∈ es.toList, ∃ k t, d.key = .str k t ∧ k ∈ ks := fun d hd => by
      have q := List.all_eq_true.mp h d hd
      split at q
      · rename_i k t e2
        exact ⟨k, t, e2, List.contains_iff_mem.mp q⟩
      · cases q
    have f : es.toList.find? (·.key.isStr z) = none := List.find?_eq_none.mpr fun d hd z2 => by
      obtain ⟨k, t, e2, hk⟩ := key d hd
      rw [e2] at z2
      have z3 : (k == z) = true := z2
      exact hz (by rw [← eq_of_beq z3]; exact hk)
    rw [f]
    simp only
    rw [if_neg]
    intro q
    obtain ⟨d, hd, q⟩ := List.any_eq_true.mp q
    obtain ⟨k, t, e2, _⟩ := key d hd
    unfold DictEntry.refKey at q
    rw [e2] at q
    cases q
  · cases h
def numD : Option Int → Dt
  | some i => .int i
  | none => .non
theorem numsB_ok {x : Str} {l : List (Str × Option Int)} (h : numsB c.K x l = true) {es : Array DictEntry} {n : Nat} (D : KDict c.K c.w (He.ga c.K x) es n) {z : Str} {y : Option Int} (hz : (z, y) ∈ l) : ∃ v, KDct c.K c.w (He.ga c.K x) z v ∧ ∀ H, Rep c H v (numD y) := by
  have h2 := List.all_eq_true.mp h (z, y) hz
  dsimp only at h2
  cases e : PySem.W.nsIn c.K (He.ga c.K x) z with
  | none => rw [e] at h2; cases y <;> cases h2
  | some o =>
    rw [e] at h2
    cases o with
    | none => cases y <;> cases h2
    | some v =>
      cases v with
      | int u t =>
        cases y with
        | none => cases h2
        | some i =>
          have e2 : u = i := of_decide_eq_true h2
          subst e2
          exact ⟨.int u, ⟨es, n, _, D.at_, D.lit, e, ⟨t, rfl⟩⟩, fun H => .int u⟩
      | none =>
        cases y with
        | none => exact ⟨.non, ⟨es, n, _, D.at_, D.lit, e, rfl⟩, fun H => .non⟩
        | some i => cases h2
      | _ => cases y <;> cases h2
theorem glob_str {x z : Str} (h : ∃ t, c.mg x = some (.str z t)) : Glob c x (.str z) := let ⟨t, e⟩ := h; ⟨_, .str z, e, ⟨t, rfl⟩, fun H => .str z⟩
theorem glob_int {x : Str} {n : Int} (h : ∃ t, c.mg x = some (.int n t)) : Glob c x (.int n) := let ⟨t, e⟩ := h; ⟨_, .int n, e, ⟨t, rfl⟩, fun H => .int n⟩
end
end Pm
namespace He
open PySem PySem.Spec PyProof.Rows L2
/-- what the top leaves, what the class NoLine holds, and the table of what is fixed -/
def asN (g : Addr → Option Obj) : List Addr := asC ["NoLine"] g ++ [cStatics]
section
variable (fa : List Fa) (fn : List DefD) (ts : List Tab) (tf : List Defn) (ex : PySem.W.Frag → Bool)
abbrev AlN : Type := AlX × Pm.IniW
def obsN (g : Addr → Option Obj) : AlN := ((obsT fa fn ts (frT g (asN g)), ex (frT g (asN g)) && tabsB g tf (frT g (asN g))), Pm.iniW (frT g (asN g)))
def hookN : PySem.W.Hook where
  α := AlN
  obs := fun s => obsN fa fn ts tf ex s.heap.get?
  val := fun w => (valX fn ts w, Pm.iniV)
  says := fun w h => ∃ K : PySem.W.Frag, K.In h ∧ SaysX fa fn ts tf ex w h K ∧ Pm.iniW K = Pm.iniV
  of := fun _ _ e => ⟨_, frT_in, saysA_of (congrArg (fun z : AlN => z.1.1) e) (congrArg (fun z : AlN => z.1.2) e), congrArg (fun z : AlN => z.2) e⟩
  keeps := fun _ _ _ ⟨K, hK, c, i⟩ k => ⟨K, PySem.W.Frag.In.keeps hK k, ⟨c.t, c.more, c.hd, c.out, fun p hp => k _ _ (c.empty p hp)⟩, i⟩
variable {fa fn ts tf ex}
theorem obsN_eq {g : Addr → Option Obj} {s : Shared} (h : ∀ a, g a = s.heap.get? a) : obsN fa fn ts tf ex g = (hookN fa fn ts tf ex).obs s := by
  have e : g = s.heap.get? := funext h
  rw [e] <;> rfl
end
end He
namespace Pm
open PySem PySem.Spec PyProof.Rows L2 GxR GX
theorem ini_body : ∃ (s1 s2 : Str) (k1 k2 : Nat) (r1 r2 r3 r4 r5 p0 p1 p2 p3 p4 q0 q1 q2 q3 : Pos) (pl : Sem Bool), defBody s_NoLine_init = bodyI s1 s2 k1 k2 r1 r2 r3 r4 r5 p0 p1 p2 p3 p4 q0 q1 q2 q3 ∧ s1.length ≤ 40 ∧ s2.length ≤ 40 ∧ ∀ env : Env, eval (.Call (.Attribute (.Call (.Name "super" p0) [] [] p1) "__init__" p2) (ptsI s1 s2 k1 k2 r1 r2 r3 r4 r5) [] p3) env = (do
      let ov ← attributeBase (.Call (.Name "super" p0) [] [] p1) "__init__" env (eval (.Call (.Name "super" p0) [] [] p1) env)
      standAt p2.atName
      let (f, first) ← holding [ov] (getMethod ov "__init__" pl)
      callWith p3 f first (backTo p3 (starEach (ptsI s1 s2 k1 k2 r1 r2 r3 r4 r5) env)) []) :=
  ⟨_, _, _, _, _, _, _, _, _, _, _, _, _, _, _, _, _, _, _, rfl, by decide +kernel, by decide +kernel, fun env => rfl⟩
theorem free_ok [LamTab] {l : List (Str × NameKind)} (h : freeB l = true) {y : Str} (e : l.lookup y = some .free) : y = ("__class__" : Str) := by
  have z := List.all_eq_true.mp h (y, .free) (lookup_in e)
  dsimp only at z
  rcases Bool.or_eq_true_iff.mp z with z | z
  · cases z
  · exact eq_of_beq z
theorem ini_scope [LamTab] : ScI (defScope s_NoLine_init) := ⟨rfl, rfl, rfl, by decide +kernel, fun y e => free_ok (l := (defScope s_NoLine_init).names) (by decide +kernel) e, by decide +kernel, by decide +kernel, by decide +kernel, by decide +kernel⟩
theorem errI_of [LamTab] {c : Ct} (h : nlB c.P.main.file c.K = true) (hi : iniW c.K = iniV) (hm : c.mg "NoLine" = some (.ref (nlC c.K))) (hs : c.mg "super" = none) (ht : (c.P.main.scope.names.lookup ("super" : Str)).isSome = false) : ErrI c "NoLine" 1 := by
  have N := nlB_ok h
  obtain ⟨fd, f1, f2, f3, f4, f5⟩ := N.fn
  unfold iniW iniV at hi
  rw [f1] at hi
  obtain ⟨n1, n2, n3, n4, n5, n6, n7, n8, n9, n10, n11, n12, n13, n14, n15⟩ := fd
  simp only [Option.map_some, Option.some.injEq, Prod.mk.injEq] at hi
  dsimp only at f2 f3 f4 f5
  obtain ⟨rfl, rfl, rfl, rfl, rfl, rfl, h7, rfl⟩ := hi
  obtain ⟨ca, ccl, cdd, vs, ccs, file, tf, rfl, lca, hv, hfile⟩ := codeFileB_ok f4
  obtain ⟨⟨x, cc⟩, rfl, rfl⟩ : ∃ p : Str × Addr, n7 = [p] ∧ p.1 = "__class__" := by
    match n7, h7 with
    | [p], h7 =>
      rw [List.map_singleton] at h7
      injection h7 with h8
      exact ⟨p, rfl, h8⟩
  obtain ⟨cl, cld, csl, lcc⟩ := cellB_ok f5
  obtain ⟨oc, od, osl, lf⟩ := fdOf_ok f1
  obtain ⟨s1, s2, k1, k2, r1, r2, r3, r4, r5, p0, p1, p2, p3, p4, q0, q1, q2, q3, pl, eb, hl1, hl2, hc⟩ := ini_body
  have ox : OexC c.K (nlC c.K) := ⟨oexB_ok N.ox, N.sa, N.xf.exC, N.ty, N.kp⟩
  have SI : SuI c.K c.P c.mg (nlC c.K) (nlF c.K) cc ca (PySem.W.ksFn "__init__" "NoLine.__init__" (defArgs s_NoLine_init) (defBody s_NoLine_init) (defScope s_NoLine_init) n8 n9 n10 n11 n12 (.ref ca) n14 cc) :=
    ⟨ox, ⟨oc, od, osl, lf⟩, ⟨_, rfl, rfl⟩, ⟨ccl, cdd, vs, ccs, file, tf, lca, hv, hfile⟩, ⟨cl, cld, csl, lcc⟩, N.self, hs, ht, N.third, N.above, N.isVE⟩
  have ok := SI
  have bk : Binds c.K (PySem.W.ksFn "__init__" "NoLine.__init__" (defArgs s_NoLine_init) (defBody s_NoLine_init) (defScope s_NoLine_init) n8 n9 n10 n11 n12 (.ref ca) n14 cc) ["self", "at"] [] := by
    rcases He.dflB_ok f3 with ⟨e, _⟩ | ⟨_, T, o, its, n, rfl, lT, oT, rT⟩
    · cases e
    · intro s us X hlen
      rw [List.append_nil] at hlen ⊢
      match us, hlen, its, rT.length, oT with
      | [u, v], _, [i0], _, oT =>
        refine BindsTo.of_looks fun M => ?_
        exact looks_items X lT oT (.of_pure rfl)
  rw [eb] at SI bk
  refine ⟨_, _, _, hm, ox, N.ini, N.tf, ?_, bk⟩
  exact init_ok hc hl1 hl2 SI f2 ini_scope N.at_
theorem errA_of [LamTab] {c : Ct} {file : Str} (h : nlB file c.K = true) (hm : c.mg "NoLine" = some (.ref (nlC c.K))) : ErrA c := ⟨_, hm, (nlB_ok h).exm, (nlB_ok h).xf, (nlB_ok h).at_⟩
end Pm
set_option maxHeartbeats 0
namespace Pm
open PySem PySem.Spec PyProof.Rows L2 GxR GX
abbrev R : PySem.W.OpenRow := PySem.W.OpenLaw.row PySem.Challenge.rw_passmill_k26_lines_refused
def loose1 : List Str := ["MillError", "NoLine", "LETTERS", "LONGEST_PASS_NAME", "is_whole", "is_word", "is_pass_name", "DEEPEST", "TIMES", "read_line", "items_from", "leads_on", "sign_at", "item_from", "name_from", "bracket_from", "line_text", "are_items", "is_item", "text_of"]
def loose2 : List Str := ["item_text", "_law_pick", "_law_always", "_law_items", "_law_line_of", "_law_at"]
def loose : List Str := loose1 ++ (loose2)
def fas1 : List He.Fa := [.glo "_law_at", .glo "is_whole", .glo "is_word", .glo "is_pass_name", .glo "sign_at", .glo "leads_on", .glo "name_from", .glo "bracket_from", .glo "item_from", .glo "items_from", .glo "read_line", .glo "is_item", .glo "are_items", .glo "item_text", .glo "text_of", .glo "line_text", .glo "_law_pick", .glo "_law_always", .glo "_law_items", .glo "_law_line_of"]
def fas2 : List He.Fa := [.glo "law", .glo "TIMES", .glo "NoLine", .free "len", .free "all", .free "isinstance", .free "bool", .free "int", .free "str", .free "tuple", .free "list", .free "set", .free "zip", .free "range", .free "max", .free "min", .free "enumerate", .free "dict", .free "sorted", .free "any"]
def fas3 : List He.Fa := [.free "reversed", .free "ValueError", .free "super", .str "LETTERS" "abcdefghijklmnopqrstuvwxyz", .int "LONGEST_PASS_NAME" 6, .int "DEEPEST" 4]
def fas : List He.Fa := fas1 ++ (fas2 ++ (fas3))
def fns1 : List He.DefD := [dG "_law_at" s_law_at, dG "is_whole" s_is_whole, dG "is_word" s_is_word, dG "is_pass_name" s_is_pass_name, dG "sign_at" s_sign_at, dG "leads_on" s_leads_on, dG "name_from" s_name_from, dG "bracket_from" s_bracket_from, dG "item_from" s_item_from, dG "items_from" s_items_from, dG "read_line" s_read_line, dG "is_item" s_is_item]
def fns2 : List He.DefD := [dG "are_items" s_are_items, dG "item_text" s_item_text, dG "text_of" s_text_of, dG "line_text" s_line_text, dG "_law_pick" s_law_pick, dG "_law_always" s_law_always, dG "_law_items" s_law_items, dG "_law_line_of" s_law_line_of, dG "law" s_law]
def fns : List He.DefD := fns1 ++ (fns2)
def tabD0 : He.Tab := (fun K => He.ga K "TIMES", ["1", "2", "3", "4", "5", "6", "7", "8", "9", "+"])
def tabs0 : List He.Tab := [tabD0]
def tfs0 : List He.Defn := [("is_word", none), ("are_items", none), ("text_of", none)]
def tfsL : List He.Defn := [("law", none)]
def tfs : List He.Defn := tfs0 ++ tfsL
def fm26 (K : PySem.W.Frag) : Bool := nlB R.prog.main.file K && (numsB K "TIMES" timesL && keysB K "TIMES" (timesL.map (·.1)))
def fmBL (K : PySem.W.Frag) : Bool := fm26 K && (decide ((tfsL.map fun p => (He.cT K p).2).Nodup) && tfs0.all fun p => !((tfsL.map fun p => (He.cT K p).2).contains (He.cT K p).2))
abbrev hk : PySem.W.Hook := He.hookN fas fns tabs0 tfs fmBL
def ob (s : PySem.W.SharedT) : He.AlN := He.obsN fas fns tabs0 tfs fmBL (HandSHeadRun.getT s)
theorem ob_eq (s : PySem.W.SharedT) : ob s = hk.obs s.abs := He.obsN_eq (HandSHeadRun.getT_eq s)
theorem run_f (w : World) : HandSHeadRun.RunEq R (PySem.W.view R.prog [30]) hk ob 8000 loose (w.withFollow "special-get-raises" false) := by
  intro os
  kernel_rfl
theorem run_t (w : World) : HandSHeadRun.RunEq R (PySem.W.view R.prog [30]) hk ob 8000 loose (w.withFollow "special-get-raises" true) := by
  intro os
  kernel_rfl
theorem runs (w : World) : HandSHeadRun.RunEq R (PySem.W.view R.prog [30]) hk ob 8000 loose w := PySem.W.byRow2 "special-get-raises" run_f run_t w
end Pm
namespace HandSHeadRun
open PySem PySem.W PySem.Calls PyProof.Rows
/-- all but the call -/
theorem hd_holds (hc : WalkO (view (OpenLaw.row PySem.Challenge.rw_passmill_k26_lines_refused).prog [30]) Pm.loose (XL (view (OpenLaw.row PySem.Challenge.rw_passmill_k26_lines_refused).prog [30]) []) Pm.hk.says (OpenLaw.row PySem.Challenge.rw_passmill_k26_lines_refused).toRowW (topDef (OpenLaw.row PySem.Challenge.rw_passmill_k26_lines_refused).prog 30) [] fun f vs => PySem.call f vs) : PySem.Challenge.rw_passmill_k26_lines_refused.Holds := by
  w_on; o_law
  refine HandSHeadRun.head_any (r := OpenLaw.row PySem.Challenge.rw_passmill_k26_lines_refused) (q := view (OpenLaw.row PySem.Challenge.rw_passmill_k26_lines_refused).prog [30]) (H := Pm.hk) (ob := Pm.ob) (M := 8000) (loose := Pm.loose) (d := HandSHeadRun.topDef (OpenLaw.row PySem.Challenge.rw_passmill_k26_lines_refused).prog 30) (kwd := []) Pm.ob_eq
    (by kernel_rfl) (fun s => by kernel_rfl) Pm.runs (by kernel_rfl) (by kernel_rfl) (by kernel_rfl) (by rfl) (by first | assumption | decide +kernel) (by decide +kernel) ⟨rfl, rfl, rfl, rfl, rfl, by decide +kernel⟩ ?hw hc
  case hw => w_witness2
theorem hd_n : (topDef (OpenLaw.row PySem.Challenge.rw_passmill_k26_lines_refused).prog 30).name = ("law" : PySem.Str) := by kernel_rfl
end HandSHeadRun
set_option maxHeartbeats 4000000
set_option maxHeartbeats 4000000
set_option maxHeartbeats 4000000
set_option maxHeartbeats 4000000
set_option maxHeartbeats 4000000
namespace Pm
open PySem PySem.Spec PyProof.Rows L2 GxR GX
variable [LamTab]
section
variable {c : Ct} {X : Cx} {E : XK} {a e : Expr} {f g : Ev → Mo Rv} {apos cpos : Pos}
/-- a.join(b) -/
def joinD : Dt → Dt → Option Rv
  | .str z, .lst ds => (strsDt ds).bind fun ys => if (ys.map (·.length)).sum + ys.length * z.length ≤ 1000000 then some (.sh, .str (Txt.join z ys)) else none
  | .str z, .tup ds => (strsDt ds).bind fun ys => if (ys.map (·.length)).sum + ys.length * z.length ≤ 1000000 then some (.sh, .str (Txt.join z ys)) else none
  | _, _ => none
def eJoin (f g : Ev → Mo Rv) : Ev → Mo Rv := fun env => (f env).bind fun x => match x.2 with
  | .str z => (g env).bind fun y => Mo.of (joinD (.str z) y.2)
  | _ => .no
theorem de_join (ha : DE c X E a f) (he : DE c X E e g) (hK : X.K = c.K := by rfl) (hs : starEach [e] X.env = [(false, eval e X.env)] := by rfl) (hbase : attributeBase a "join" X.env (eval a X.env) = eval a X.env := by rfl) (hline : (apos.endLine == cpos.line) = true := by rfl) :
    DE c X E (.Call (.Attribute a "join" apos) [e] [] cpos) (eJoin f g) := by
  obtain ⟨t, pa, ra⟩ := ha
  obtain ⟨u, pe, re⟩ := he
  refine ⟨_, pe_join pa pe hs hbase hline, fun φ as σ H env R => (ra φ as σ H env R).bind fun x H1 rv1 he1 g1 r1 => ?_⟩
  clear he1
  have rc := r1.rc R.hid
  generalize rv1.2 = d at rc
  cases d with
  | str z =>
    rw [repC_str rc]
    have T := (re φ as σ H1 env (R.gr g1)).bind (S := fun v H' rv => RvR c as H H' v rv) (u := fun y H2 Q => ∃ b p, ∃ ys : List Str, V.str z = .str b ∧ [y] = [.ref p] ∧ (SqL X.K H2 p (ys.map V.str) ∨ SqT X.K H2 p (ys.map V.str)) ∧ (ys.map (·.length)).sum + ys.length * b.length ≤ 16777216 ∧ Q (.str (Txt.join b ys)) H2) (f := fun y => Mo.of (joinD (.str z) y.2)) fun y H2 rv2 he2 g2 r2 => ?_
    · exact ⟨fun b ec Q q => ⟨⟨z, rfl⟩, T.ok b ec Q q⟩, fun k n ec q Q => ⟨⟨z, rfl⟩, T.ex k n ec q Q⟩⟩
    · clear he2
      have rc2 := (r2.rc (R.gr g1).hid).full
      refine .of fun rv ec Q q => ?_
      unfold joinD at ec
      split at ec
      · rename_i z' ds e1 e2
        cases e1
        rw [e2] at rc2
        obtain ⟨ys, h1, h2⟩ := Option.bind_eq_some_iff.mp ec
        split at h2
        · rename_i hl
          cases h2
          cases rc2 with
          | lst s r =>
            obtain ⟨rfl, _⟩ := strsD_ok r h1
            exact ⟨z, _, ys, rfl, rfl, .inl (by rw [hK]; exact .of s), Nat.le_trans hl (by decide), q _ H2 (.refl _) (.str _)⟩
        · cases h2
      · rename_i z' ds e1 e2
        cases e1
        rw [e2] at rc2
        obtain ⟨ys, h1, h2⟩ := Option.bind_eq_some_iff.mp ec
        split at h2
        · rename_i hl
          cases h2
          cases rc2 with
          | tup s r =>
            obtain ⟨rfl, _⟩ := strsD_ok r h1
            exact ⟨z, _, ys, rfl, rfl, .inr (by rw [hK]; exact s), Nat.le_trans hl (by decide), q _ H2 (.refl _) (.str _)⟩
        · cases h2
      · cases ec
  | _ => exact .no
end
end Pm
set_option maxHeartbeats 4000000
namespace Pm
open PySem PySem.Spec PyProof.Rows L2 GxR GX
variable [LamTab]
section
variable {c : Ct} {X : Cx} {E : XK} {f g : Ev → Mo Rv} {a e : Expr} {apos cpos : Pos}
section
variable {fs : Ev → Mo (List Rv)} {p pos : Pos}
def strOD : List Dt → Option Rv
  | [.str z] => some (.sh, .str z)
  | [.int i] => if i.natAbs.log2 < 1920 then some (.sh, .str (toString i)) else none
  | _ => none
theorem de_strO (hm : c.mg "str" = none) (ha : DA c X E [a] fs) (h4 : X.mg = c.mg := by rfl) (hg : Gl X "str" := by rfl) (he : starEach [a] X.env = (false, eval a X.env) :: starEach [] X.env := by rfl) : DE c X E (.Call (.Name "str" p) [a] [] pos) (eB strOD fs) := by
  refine de_callTy (SkE.call_str_str.or call_str_int) (fun as H vs ds rv hd r o Q q => ?_) hm (by decide +kernel) ha h4 hg (by decide) (by decide) he rfl
  unfold strOD at o
  split at o
  · cases o
    obtain ⟨v, rfl, h⟩ := repcs1 r
    rw [repC_str h]
    exact .inl ⟨_, rfl, q _ H (.refl _) (.str _)⟩
  · split at o
    · rename_i hl
      cases o
      obtain ⟨v, rfl, h⟩ := repcs1 r
      rw [repC_int h]
      exact .inr ⟨_, rfl, hl, q _ H (.refl _) (.str _)⟩
    · cases o
  · cases o
end
section
variable {es : List Expr} {pos : Pos} {j : Ev → Str → Mo Str}
def eFmt (f : Ev → Mo Rv) : Ev → Mo Rv := fun env => (f env).bind fun x => match x.2 with
  | .str y => if y.length ≤ sizeLine then .ok (.sh, .str y) else .no
  | .int i => if i.natAbs.log2 < 1920 then .ok (.sh, .str (toString i)) else .no
  | _ => .no
theorem de_fmt (he : DE c X E e f) : DE c X E (.FormattedValue e (-1) none pos) (eFmt f) := by
  obtain ⟨t, pe, re⟩ := he
  refine ⟨_, pe_fmt pe, fun φ as σ H env R => (re φ as σ H env R).bind fun x H1 rv1 he1 g1 r1 => ?_⟩
  clear he1
  have rc := r1.rc R.hid
  generalize rv1.2 = d at rc
  cases d with
  | str y =>
    rw [repC_str rc]
    by_cases hl : y.length ≤ sizeLine
    · show Tr c E H1 _ _ (if y.length ≤ sizeLine then Mo.ok ((Kd.sh, Dt.str y) : Rv) else Mo.no)
      rw [if_pos hl]
      refine ⟨fun rv ec Q q => ?_, fun k n ec => by cases ec⟩
      cases ec
      exact .inl ⟨y, rfl, hl, q _ H1 (.refl _) (.str _)⟩
    · show Tr c E H1 _ _ (if y.length ≤ sizeLine then Mo.ok ((Kd.sh, Dt.str y) : Rv) else Mo.no)
      rw [if_neg hl]
      exact .no
  | int i =>
    rw [repC_int rc]
    by_cases hl : i.natAbs.log2 < 1920
    · show Tr c E H1 _ _ (if i.natAbs.log2 < 1920 then Mo.ok ((Kd.sh, Dt.str (toString i)) : Rv) else Mo.no)
      rw [if_pos hl]
      refine ⟨fun rv ec Q q => ?_, fun k n ec => by cases ec⟩
      cases ec
      exact .inr ⟨i, rfl, hl, q _ H1 (.refl _) (.str _)⟩
    · show Tr c E H1 _ _ (if i.natAbs.log2 < 1920 then Mo.ok ((Kd.sh, Dt.str (toString i)) : Rv) else Mo.no)
      rw [if_neg hl]
      exact .no
  | _ => exact .no
def jNil : Ev → Str → Mo Str := fun _ acc => .ok acc
def jCons (f : Ev → Mo Rv) (j : Ev → Str → Mo Str) : Ev → Str → Mo Str := fun env acc => (f env).bind fun x => match x.2 with
  | .str y => if (acc ++ y).length ≤ sizeLine then j env (acc ++ y) else .no
  | _ => .no
def DJ (c : Ct) (X : Cx) (E : XK) (es : List Expr) (j : Ev → Str → Mo Str) : Prop := ∃ ts, PJ X es ts ∧ ∀ φ as σ H env acc, Rel c φ as σ H env → Tr c E H (fun v H' o => v = .str o) (fun Q : VK => tJs ts acc σ H fun out H1 => Q (.str out) H1) (j env acc)
theorem dj_nil : DJ c X E [] jNil := ⟨[], .nil, fun φ as σ H env acc R => ⟨fun o ec Q q => by
  cases ec
  exact q _ H (.refl _) rfl, fun k n ec => by cases ec⟩⟩
theorem dj_cons (he : DE c X E e f) (hr : DJ c X E es j) : DJ c X E (e :: es) (jCons f j) := by
  obtain ⟨t, pe, re⟩ := he
  obtain ⟨ts, pr, rr⟩ := hr
  refine ⟨t :: ts, .cons pe pr, fun φ as σ H env acc R => (re φ as σ H env R).bind fun x H1 rv1 he1 g1 r1 => ?_⟩
  clear he1
  have rc := r1.rc R.hid
  generalize rv1.2 = d at rc
  cases d with
  | str y =>
    rw [repC_str rc]
    by_cases hl : (acc ++ y).length ≤ sizeLine
    · show Tr c E H1 _ _ (if (acc ++ y).length ≤ sizeLine then j env (acc ++ y) else Mo.no)
      rw [if_pos hl]
      have T := rr φ as σ H1 env (acc ++ y) (R.gr g1)
      exact ⟨fun o ec Q q => ⟨y, rfl, hl, T.ok o ec Q q⟩, fun k n ec q Q => ⟨y, rfl, hl, T.ex k n ec q Q⟩⟩
    · show Tr c E H1 _ _ (if (acc ++ y).length ≤ sizeLine then j env (acc ++ y) else Mo.no)
      rw [if_neg hl]
      exact .no
  | _ => exact .no
def eJs (j : Ev → Str → Mo Str) : Ev → Mo Rv := fun env => (j env Str.empty).bind fun o => .ok (.sh, .str o)
theorem de_joined {v1 v2 : Expr} {rest : List Expr} (h : DJ c X E (v1 :: v2 :: rest) j) : DE c X E (.JoinedStr (v1 :: v2 :: rest) pos) (eJs j) := by
  obtain ⟨ts, pj, rj⟩ := h
  refine ⟨_, pe_joined pj, fun φ as σ H env R => ?_⟩
  have T := rj φ as σ H env Str.empty R
  refine ⟨fun rv ec Q q => ?_, fun k n ec q Q => ?_⟩
  · obtain ⟨o, e1, e2⟩ := Mo.bind_eq_ok ec
    cases e2
    exact T.ok o e1 Q fun v H1 g r => by
      rw [r]
      exact q _ H1 g (.str _)
  · rcases Mo.bind_eq_ex ec with e1 | ⟨o, e1, e2⟩
    · exact T.ex k n e1 q Q
    · cases e2
end
end
end Pm
set_option maxHeartbeats 4000000
set_option maxHeartbeats 4000000
namespace GX
open PySem PySem.Spec PyProof.Rows L2 GxR GenW
open PySem.Builtin PySem.Builtin.Str
variable [LamTab]
section
variable {X : Cx} {pins : List (Addr × Obj)} {σ : L2.St} {H : Hp} {s : Shared} {k : Nat} {Q : VK}
/-- what sep.join(..) gives -/
def QJoin (sep : Str) (Q : VK) : List V → Hp → Prop := fun ys H => ∃ ws : List Str, ys = ws.map V.str ∧ JoinOk sep ws = true ∧ Q (.str (Txt.join sep ws)) H
theorem strs_of : ∀ {ws : List Str} {us : List Value}, Vals (ws.map V.str) us → ∃ l : List (Str × Tok), strValues l = us ∧ l.map (·.1) = ws
  | [], _, r => by
    cases r
    exact ⟨[], rfl, rfl⟩
  | w :: ws, _, r => by
    cases r with
    | @cons _ u _ us r1 r2 =>
      obtain ⟨l, h1, h2⟩ := strs_of (ws := ws) r2
      obtain ⟨t, rfl⟩ := (show ∃ t, u = Value.str w t from r1)
      exact ⟨(w, t) :: l, by unfold strValues at h1 ⊢; rw [List.map_cons, h1], by rw [List.map_cons, h2]⟩
theorem call_joinT {G : Cx} {elt tg iter : Expr} {ifs : List Expr} {scope : Scope} {gpos : Pos} {code : Value} {J : It} {H3 : Hp} {it a : Addr} {fp : List Addr} {tn : Nat → Heap → Prop} {gn : Nat} {s5 : Shared} {g : TG} {tt : TT} {te : TE} {vs : List Nat} {sep : Str} {t : Tok}
    (hc : X.calm = true) (hr : Room k X.A) (hco : scope.isCoroutine = false)
    (M : Made X X.A.in1.in1.in1 pins σ (wipe σ vs) (.GeneratorExp elt [⟨tg, iter, ifs, 0⟩] scope gpos) tg scope code G J H3 it a fp tn gn s5) (pg : PG G tg g) (pt : PTs G ifs tt) (pe : PE G elt te) (q : ColLoop g tt te vs σ (QJoin sep Q) J H3) :
    wpAny (model X.prog X.w) X.A (call (.builtin "str.join") [.str sep t, .ref a]) (EP X pins σ Q) X.xe s5 := by
  have hga : s5.heap.IsGen a gn := M.isg _ _ _ _ M.inv
  have hTI : s5.TypeIs (.ref a) "generator" := Heap.IsGen.typeIs hga
  refine wpAny_call (codeAny_call_builtin PySem.F.slot_str_join.plain PySem.F.entry_str_join (PySem.F.slot_str_join.check _ _ _ _ _ _ _ _ (typeIs_str _ _ _) (PySem.F.args_str_join_2 _ _) ?_))
  rw [join_tree_other]
  refine wpAny_bind (wpAny_typeOf hTI ?_)
  show wpAny _ X.A.in1 ((pyIter (.ref a)).tryCatch _ >>= fun it => collect it >>= fun items => joinTail sep items) _ _ s5
  refine wpAny_bind (wpAny_tryCatch (wpAny_pyIter_gen hga ?_))
  refine wpAny_bind (collectT (A := X.A.in1) hc hr.hd (by have := hr.dp; show X.A.depth < _; omega) hco M pg pt pe q fun ys acc s1 H1 I1 rv ⟨ws, e, jok, q1⟩ => ?_)
  subst e
  obtain ⟨l, hl, hw⟩ := strs_of rv
  rw [← hl]
  rw [← hw] at jok q1
  unfold JoinOk at jok
  rw [Bool.not_eq_true'] at jok
  have g : Gives (joinTail sep (strValues l)) (joinMade sep l) := by
    have g0 := gives_joinTail sep l jok
    cases l with
    | nil => exact g0
    | cons p r => cases r with
      | nil => exact g0
      | cons q r2 => exact g0
  exact g X.prog X.w X.A (wants (EP X pins σ Q) X.xe) s1 (post_join l ⟨joinFit_length jok, fun t' k' => ⟨.str _, H1, I1.tok k', ⟨t', rfl⟩, q1⟩⟩)
/-- o.join(e for ..) -/
def tJoinX (P : Addr) (to : TE) (wi : L2.TI) (g : TG) (tt : Value → TT) (te : Value → TE) (vs : List Nat) : TE := fun σ H Q => to σ H fun v H0 => ∃ sep : Str, v = .str sep ∧ wi σ H0 fun J H1 => TabN H1 P ∧ ∀ H2 code, TabbedN P H1 H2 → GoodC H2 code → ColLoop g (tt code) (te code) vs σ (QJoin sep Q) J H2
theorem pe_joinX {c P : Addr} {o elt tg iter : Expr} {ifs : List Expr} {scope : Scope} {own : List (Str × Nat)} {apos cpos gpos : Pos} {to : TE} {wi : L2.TI} {g : TG} {tt : Value → TT} {te : Value → TE}
    (hc : X.calm = true) (hN : X.N.Nodup) (hr : Room k X.A) (TB : TabB X.base X.mg c P) (hcode : X.env.code = .ref c) (ok : GOk X.N X.env.scope scope own) (ho : PE X o to) (hi : PI X tg iter wi)
    (hg : ∀ (s : Shared) (H : Hp) (C : Addr) (cl : List (Str × Addr)) (code : Value) (bi : Addr) (fp : List Addr) (pn : List (Addr × Obj)), PG (gblkB X X.A.in1.in1.in1 s H (genEnv scope cl C code bi X.env) fp pn) tg g)
    (ht : ∀ (s : Shared) (H : Hp) (C : Addr) (cl : List (Str × Addr)) (code : Value) (bi : Addr) (fp : List Addr) (pn : List (Addr × Obj)), PTs (gblkB X X.A.in1.in1.in1 s H (genEnv scope cl C code bi X.env) fp pn) ifs (tt code))
    (he : ∀ (s : Shared) (H : Hp) (C : Addr) (cl : List (Str × Addr)) (code : Value) (bi : Addr) (fp : List Addr) (pn : List (Addr × Obj)), PE (gblkB X X.A.in1.in1.in1 s H (genEnv scope cl C code bi X.env) fp pn) elt (te code))
    (hs : ∀ v, genFold iter X.env v = pure v := by intro _; rfl) (hbase : attributeBase o "join" X.env (eval o X.env) = eval o X.env := by rfl)
    (hfew : ((backTo cpos (starEach [.GeneratorExp elt [⟨tg, iter, ifs, 0⟩] scope gpos] X.env)).all (fun x => !x.1) && (backToKw cpos (keywordEach [] X.env)).all (fun x => x.1.isSome)
      && decide (([.GeneratorExp elt [⟨tg, iter, ifs, 0⟩] scope gpos] : List Expr).length + ([] : List Keyword).length + (if ([] : List Keyword).isEmpty then 0 else 1) < 30)) = true := by rfl)
    (hline : (apos.endLine == cpos.line) = true := by rfl)
    (hst : starEach [.GeneratorExp elt [⟨tg, iter, ifs, 0⟩] scope gpos] X.env = (false, eval (.GeneratorExp elt [⟨tg, iter, ifs, 0⟩] scope gpos) X.env) :: starEach [] X.env := by rfl)
    (hpl : (backTo cpos (starEach [] X.env)).any (·.1) = false := by rfl) :
    PE X (.Call (.Attribute o "join" apos) [.GeneratorExp elt [⟨tg, iter, ifs, 0⟩] scope gpos] [] cpos) (tJoinX P to wi g tt te (own.map Prod.snd)) := by
  refine ⟨fun pins s σ H Q I h => ?_⟩
  refine wpAny_Call_method_late hbase hfew hline rfl (thn (ho.run pins s σ H _ I h) fun v s1 ⟨x1, H1, I1, r1, sep, ex, q1⟩ => ?_)
  subst ex
  obtain ⟨tk, rfl⟩ := (show ∃ t, v = Value.str sep t from r1)
  refine ⟨"str", _, PySem.F.plainAttrs_str, PySem.F.slot_str_join, PySem.F.type_str_join, typeIs_str _ _ _, (fun _ e => nomatch e), ?_⟩
  rw [hst]
  refine Calls.callWith_builtin (by show (false || (backTo cpos (starEach [] X.env)).any (·.1)) = false; rw [hpl]; rfl) (Calls.evalArgs_plain ?_)
  show wpAny _ _ (spliced ((false, eval (.GeneratorExp elt [⟨tg, iter, ifs, 0⟩] scope gpos) X.env) :: backTo cpos (starEach [] X.env))) _ _ s1
  refine Calls.spliced_cons (gen_made (B := X.A.in1.in1.in1) (R0 := fun J H1 => TabN H1 P ∧ ∀ H2 code, TabbedN P H1 H2 → GoodC H2 code → ColLoop g (tt code) (te code) (own.map Prod.snd) σ (QJoin sep Q) J H2) hN hr I1.ok.frames I1.ok.hd TB.bm hcode ok hi hs I1 q1 (base_code TB fun J H2 q => q.1) fun J H2 H3 code G it a fp tn gn s5 qq hT hcA M => ?_)
  refine Calls.spliced_nil ?_
  obtain ⟨⟨_, _, _, _, _, _, rfl⟩, _⟩ := id M
  exact call_joinT hc hr ok.co M (hg ..) (ht ..) (he ..) (qq.2 H3 code hT ((qq.1.tabbed hT).good hcA))
end
end GX
set_option maxHeartbeats 4000000
namespace Pm
open PySem PySem.Spec PyProof.Rows L2 GxR GX
variable [LamTab]
def eJoinX (h : Ev → Mo Rv) (f : Ev → Mo Rv) (cl : Cl) : Ev → Mo Rv := fun env => (h env).bind fun r => match r.2 with
  | .str sep => (cl.fi env).bind fun w => (cFold (emL f) cl env w.2 []).noex.bind fun ds => match strsDt ds with
    | some ws => if JoinOk sep ws = true then .ok (.sh, .str (Txt.join sep ws)) else .no
    | none => .no
  | _ => .no
theorem rf_joinX {c : Ct} {E : XK} {P : Addr} {to : TE} {wi : L2.TI} {g : TG} {tt : TT} {te : Value → TE} {cl : Cl} {h f : Ev → Mo Rv} (hP : P ∈ c.ts) (ho : RfE c E to h) (hi : RfI c E wi cl.fi) (hg : RfG c g cl.p cl.vs) (ht : RfT c NoE tt cl.tt) (he : ∀ cv, RfEg c NoE cv (te cv) f) :
    RfE c E (tJoinX P to wi g (fun _ => tt) te cl.vs) (eJoinX h f cl) := fun φ as σ H env R => (ho φ as σ H env R).bind fun v H0 rv0 h0 g0 r0 => by
  clear h0
  have rc := r0.rc R.hid
  generalize rv0.2 = d at rc
  have R0 := R.gr g0
  cases d with
  | str sep =>
    rw [repC_str rc]
    have T := (hi φ as σ H0 env R0).bind (S := fun v H' rv => RvR c as H H' v rv) (u := fun J H1 Q => TabN H1 P ∧ ∀ H2 code, TabbedN P H1 H2 → GoodC H2 code → ColLoop g tt (te code) cl.vs σ (QJoin sep Q) J H2) (f := fun w => (cFold (emL f) cl env w.2 []).noex.bind fun ds => match strsDt ds with
      | some ws => if JoinOk sep ws = true then .ok (.sh, .str (Txt.join sep ws)) else .no
      | none => .no) fun J H1 w hw g1 wk => ?_
    · exact ⟨fun b ec Q q => ⟨sep, rfl, T.ok b ec Q q⟩, fun k n ec q Q => ⟨sep, rfl, T.ex k n ec q Q⟩⟩
    · have R1 := R0.gr g1
      refine ⟨fun rv e Q q => ⟨mem_tabs R1 hP, fun H2 code tb gc => ?_⟩, fun k n e => ?_⟩
      · obtain ⟨ds, e1, e2⟩ := Mo.bind_eq_ok e
        split at e2
        · rename_i ws hs
          obtain ⟨jok, e3⟩ := Mo.if_ok e2
          cases e3
          have g2 : Gr H1 H2 := .tabbedG tb
          have R2 := R1.gr g2
          refine col_run hg ht (he code) R2 (goodC_hideL R2.hid gc) (fun H3 g3 => wk.1.at R1.hid H3 (g2.trans g3)) (Mo.noex_ok e1) fun ys H3 g3 ra => ⟨ws, (strsD_ok ra hs).1, jok, q _ _ (g2.trans g3) (.str _)⟩
        · cases e2
      · rcases Mo.bind_eq_ex e with e1 | ⟨ds, e1, e2⟩
        · cases q : cFold (emL f) cl env w.2 [] <;> rw [q] at e1 <;> cases e1
        · split at e2
          · split at e2 <;> cases e2
          · cases e2
  | _ => exact .no
theorem room_genJ {k : Nat} {A : Around} (r : Room (k + 1) A) (env : Env) : Room k (A.in1.in1.in1.deeper env) := by
  refine ⟨r.hd, ?_, ?_⟩
  · have a := r.dp
    show A.depth + 1 + 3 * k + 5 < _
    omega
  · have b := r.un
    show A.units + 1 + 1 + 1 + 3 + 16 * k + 200 < _
    omega
section
variable {c : Ct} {X : Cx} {E : XK} {P cd : Addr} {o elt tg iter : Expr} {ifs : List Expr} {scope : Scope} {own : List (Str × Nat)} {apos cpos gpos : Pos} {cl : Cl} {sl : List Nat} {h f : Ev → Mo Rv} {k : Nat}
theorem de_joinX (hc : X.calm = true) (hN : X.N.Nodup) (hr : Room k X.A) (TB : TabB c.base c.mg cd P) (hP : P ∈ c.ts) (hcode : X.env.code = .ref cd) (ok : GOk X.N X.env.scope scope own) (hvs : cl.vs = own.map (·.2)) (ha : DE c X E o h) (hi : DI c X E tg iter cl.fi)
    (h1 : DGn c X X.A.in1.in1.in1 scope tg ifs cl sl) (he : GnP X X.A.in1.in1.in1 scope fun code Y => DEg c Y NoE code elt f) (hmg : X.mg = c.mg := by rfl) (hb : X.base = c.base := by rfl) (hs : ∀ v, genFold iter X.env v = pure v := by intro _; rfl) (hbase : attributeBase o "join" X.env (eval o X.env) = eval o X.env := by rfl)
    (hfew : ((backTo cpos (starEach [.GeneratorExp elt [⟨tg, iter, ifs, 0⟩] scope gpos] X.env)).all (fun x => !x.1) && (backToKw cpos (keywordEach [] X.env)).all (fun x => x.1.isSome)
      && decide (([.GeneratorExp elt [⟨tg, iter, ifs, 0⟩] scope gpos] : List Expr).length + ([] : List Keyword).length + (if ([] : List Keyword).isEmpty then 0 else 1) < 30)) = true := by rfl)
    (hline : (apos.endLine == cpos.line) = true := by rfl) (hst : starEach [.GeneratorExp elt [⟨tg, iter, ifs, 0⟩] scope gpos] X.env = (false, eval (.GeneratorExp elt [⟨tg, iter, ifs, 0⟩] scope gpos) X.env) :: starEach [] X.env := by rfl) :
    DE c X E (.Call (.Attribute o "join" apos) [.GeneratorExp elt [⟨tg, iter, ifs, 0⟩] scope gpos] [] cpos) (eJoinX h f cl) := by
  obtain ⟨t, pa, ra⟩ := ha
  refine ⟨_, pe_joinX (g := gOf c cl.p cl.vs) (tt := fun _ => tT c NoE cl.tt) (te := fun code => tEg c NoE code f) (wi := tI c E cl.fi) hc hN hr (by rw [hmg, hb]; exact TB) hcode ok pa hi.pi (fun s H C k code bi fp pn => ((h1.pg s H C k code bi fp pn).mono h1.sl).pg) (fun s H C k code bi fp pn => (h1.pt s H C k code bi fp pn).pts) (fun s H C k code bi fp pn => (he s H C k code bi fp pn).pe) hs hbase hfew hline hst, ?_⟩
  have e : own.map Prod.snd = cl.vs := hvs.symm
  rw [e]
  exact rf_joinX hP ra rfi_of rg_of rft_of fun cv => rfg_of
end
end Pm
set_option maxHeartbeats 4000000
namespace Pm
open PySem PySem.Spec PyProof.Rows L2 GxR GX
variable [LamTab]
def k_LETTERS : Dt := .str "abcdefghijklmnopqrstuvwxyz"
def k_LONGEST_PASS_NAME : Dt := .int 6
def k_DEEPEST : Dt := .int 4
def t_TIMES : List (Str × Dt) := [("1", .int 1), ("2", .int 2), ("3", .int 3), ("4", .int 4), ("5", .int 5), ("6", .int 6), ("7", .int 7), ("8", .int 8), ("9", .int 9), ("+", .non)]
abbrev n_is_whole : List Str := ["thing", "low", "high"]
theorem zc_is_whole : FnScope n_is_whole ["thing", "low", "high"] (defScope s_is_whole) := ⟨rfl, rfl, rfl, by decide +kernel, rfl, by decide +kernel, by decide +kernel⟩
noncomputable def m_is_whole : Sv := (mSeq (mIf (bOr (bTru (eIsi "bool" (eVar 0))) (bNot (bTru (eIsi "int" (eVar 0))))) (mRet (eC (.bl false))) mNil) (mRet (eChain leD leD (eVar 1) (eVar 0) (eVar 2))))
noncomputable def F_is_whole := runMo 3 m_is_whole
theorem fd_is_whole {c : Ct} (D : Df c "is_whole" s_is_whole) (B : BI c) (J : BJ c) : FD c "is_whole" 2 ["thing", "low", "high"] F_is_whole :=
  fd_ofN (m := m_is_whole) (N := n_is_whole) rfl D zc_is_whole (by decide) (fun _ _ _ _ _ _ us hl => match us, hl with | [_, _, _], _ => rfl) fun f cd A outer s H E hr =>
  (dss_cons (ds_if (DW.dt (dw_or (dt_tru (de_isi (T := "bool") J.isi J.bool (by simp) (by decide +kernel) (dv 0))) (dw_or1 (dt_not (dt_tru (de_isi (T := "int") J.isi J.int (by simp) (by decide +kernel) (dv 0))))))) (dss_one (ds_ret de_bl)) dss_nil) (dss_one (ds_ret (de_chain cm_le cm_le (dv 1) (dv 0) (dv 2)))))
abbrev n_is_word : List Str := ["thing", "longest", "letter"]
theorem zc_is_word : FnScope n_is_word ["thing", "longest"] (defScope s_is_word) := ⟨rfl, rfl, rfl, by decide +kernel, rfl, by decide +kernel, by decide +kernel⟩
theorem gk_is_word_1 : GOk n_is_word (defScope s_is_word) (xScope (xSub (sVal (sAt (defBody s_is_word) 1)) 1)) [("letter", 2)] := gok_by (by decide +kernel) rfl rfl
noncomputable def m_is_word : Sv := (mSeq (mIf (bOr (bNot (bTru (eIsi "str" (eVar 0)))) (bNot (bOf (eChain leD leD (eC (.int 1)) (eB lenD (aCons (eVar 0) aNil)) (eVar 1))))) (mRet (eC (.bl false))) mNil) (mRet (eAllG false (eCmp inD (eVar 2) (eC k_LETTERS)) ⟨(eIt (eVar 0)), (pName 2), bYes, [2]⟩)))
noncomputable def F_is_word := runMo 3 m_is_word
theorem fd_is_word {c : Ct} (D : Tf c "is_word" s_is_word) (B : BI c) (J : BJ c) (G_LETTERS : Glob c "LETTERS" k_LETTERS) : FD c "is_word" 2 ["thing", "longest"] F_is_word :=
  fd_ofTN (m := m_is_word) (N := n_is_word) rfl D zc_is_word (by decide) (fun _ _ _ _ _ _ us hl => match us, hl with | [_, _], _ => rfl) fun f cd tb A outer s H E TB hmt hr =>
  (dss_cons (ds_if (DW.dt (dw_or (dt_not (dt_tru (de_isi (T := "str") J.isi J.str (by simp) (by decide +kernel) (dv 0)))) (dw_or1 (dt_not (dt_chain cm_le cm_le de_int (de_len B.len (da_cons (dv 0) da_nil)) (dv 1)))))) (dss_one (ds_ret de_bl)) dss_nil) (dss_one (ds_ret (de_allG (cl := ⟨(eIt (eVar 0)), (pName 2), bYes, [2]⟩) rfl zc_is_word.nd hr B.all TB hmt rfl gk_is_word_1 rfl (di_seq (dv 0)) ⟨fun _ _ _ _ _ _ _ _ => (gn 2 zc_is_word.nd), fun _ _ _ _ _ _ _ _ => dts_nil, by decide⟩ (fun _ _ _ _ _ _ _ _ => (de_cmp (cm_in (u65_of (room_gen (k := 0) hr _))) (dv 2) (de_glob G_LETTERS)))))))
abbrev n_is_pass_name : List Str := ["thing"]
theorem zc_is_pass_name : FnScope n_is_pass_name ["thing"] (defScope s_is_pass_name) := ⟨rfl, rfl, rfl, by decide +kernel, rfl, by decide +kernel, by decide +kernel⟩
noncomputable def m_is_pass_name : Sv := (mRet (eCall F_is_word (aCons (eVar 0) (aCons (eC k_LONGEST_PASS_NAME) aNil))))
noncomputable def F_is_pass_name := runMo 1 m_is_pass_name
theorem fd_is_pass_name {c : Ct} (D : Df c "is_pass_name" s_is_pass_name) (B : BI c) (O_is_word : FD c "is_word" 2 ["thing", "longest"] F_is_word) (G_LONGEST_PASS_NAME : Glob c "LONGEST_PASS_NAME" k_LONGEST_PASS_NAME) : FD c "is_pass_name" 3 ["thing"] F_is_pass_name :=
  fd_ofN (m := m_is_pass_name) (N := n_is_pass_name) rfl D zc_is_pass_name (by decide) (fun _ _ _ _ _ _ us hl => match us, hl with | [_], _ => rfl) fun f cd A outer s H E hr =>
  (dss_one (ds_ret (de_call O_is_word (Room.mono hr (by decide)) xpx (dan_cons (dv 0) (dan_cons (de_glob G_LONGEST_PASS_NAME) dan_nil)))))
abbrev n_sign_at : List Str := ["text", "at"]
theorem zc_sign_at : FnScope n_sign_at ["text", "at"] (defScope s_sign_at) := ⟨rfl, rfl, rfl, by decide +kernel, rfl, by decide +kernel, by decide +kernel⟩
noncomputable def m_sign_at : Sv := (mRet (eSl (eVar 0) (oSome (eVar 1)) (oSome (eBin addD (eVar 1) (eC (.int 1))))))
noncomputable def F_sign_at := runMo 2 m_sign_at
theorem fd_sign_at {c : Ct} (D : Df c "sign_at" s_sign_at) (B : BI c)  : FD c "sign_at" 2 ["text", "at"] F_sign_at :=
  fd_ofN (m := m_sign_at) (N := n_sign_at) rfl D zc_sign_at (by decide) (fun _ _ _ _ _ _ us hl => match us, hl with | [_, _], _ => rfl) fun f cd A outer s H E hr =>
  (dss_one (ds_ret (de_sl (dv 0) (do_some (dv 1)) (do_some (de_add (dv 1) de_int)))))
abbrev n_leads_on : List Str := ["text", "at"]
theorem zc_leads_on : FnScope n_leads_on ["text", "at"] (defScope s_leads_on) := ⟨rfl, rfl, rfl, by decide +kernel, rfl, by decide +kernel, by decide +kernel⟩
noncomputable def m_leads_on : Sv := (mRet (eAnd (eCmp eqD (eCall F_sign_at (aCons (eVar 0) (aCons (eVar 1) aNil))) (eC (.str " "))) (eCmp notInD (eCall F_sign_at (aCons (eVar 0) (aCons (eBin addD (eVar 1) (eC (.int 1))) aNil))) (eTup (aCons (eC (.str " ")) (aCons (eC (.str ")")) (aCons (eC (.str "")) aNil)))))))
noncomputable def F_leads_on := runMo 2 m_leads_on
theorem fd_leads_on {c : Ct} (D : Df c "leads_on" s_leads_on) (B : BI c) (O_sign_at : FD c "sign_at" 2 ["text", "at"] F_sign_at) : FD c "leads_on" 3 ["text", "at"] F_leads_on :=
  fd_ofN (m := m_leads_on) (N := n_leads_on) rfl D zc_leads_on (by decide) (fun _ _ _ _ _ _ us hl => match us, hl with | [_, _], _ => rfl) fun f cd A outer s H E hr =>
  (dss_one (ds_ret (de_and (de_cmp (cm_eq hr.units) (de_call O_sign_at (Room.mono hr (by decide)) xpx (dan_cons (dv 0) (dan_cons (dv 1) dan_nil))) de_str) (de_one (de_cmp (cm_notIn (u65_of hr)) (de_call O_sign_at (Room.mono hr (by decide)) xpx (dan_cons (dv 0) (dan_cons (de_add (dv 1) de_int) dan_nil))) (de_tup (da_cons de_str (da_cons de_str (da_cons de_str da_nil)))))))))
abbrev n_name_from : List Str := ["text", "at", "behind"]
theorem zc_name_from : FnScope n_name_from ["text", "at"] (defScope s_name_from) := ⟨rfl, rfl, rfl, by decide +kernel, rfl, by decide +kernel, by decide +kernel⟩
noncomputable def m_name_from : Sv := (mSeq (mSet 2 (eVar 1)) (mSeq (mWhile (bAnd (bCmp ltD (eVar 2) (eB lenD (aCons (eVar 0) aNil))) (bCmp inD (eIx (eVar 0) (eVar 2)) (eC k_LETTERS))) (mAug 2 (eC (.int 1)))) (mSeq (mIf (bNot (bOf (eChain leD leD (eC (.int 1)) (eBin subD (eVar 2) (eVar 1)) (eC k_LONGEST_PASS_NAME)))) (mRaiseI "NoLine" (eVar 1)) mNil) (mRet (eTup (aCons (eSl (eVar 0) (oSome (eVar 1)) (oSome (eVar 2))) (aCons (eVar 2) aNil)))))))
noncomputable def F_name_from := runMo 3 m_name_from
theorem fd_name_from {c : Ct} (D : Df c "name_from" s_name_from) (B : BI c) (G_LETTERS : Glob c "LETTERS" k_LETTERS) (G_LONGEST_PASS_NAME : Glob c "LONGEST_PASS_NAME" k_LONGEST_PASS_NAME) (R_NoLine : ErrI c "NoLine" 1) : FD c "name_from" 3 ["text", "at"] F_name_from :=
  fd_ofN (m := m_name_from) (N := n_name_from) rfl D zc_name_from (by decide) (fun _ _ _ _ _ _ us hl => match us, hl with | [_, _], _ => rfl) fun f cd A outer s H E hr =>
  (dss_cons (dst 2 zc_name_from.nd (dv 1)) (dss_cons (ds_while xpo (DW.dt (dw_and (dt_cmp cm_lt (dv 2) (de_len B.len (da_cons (dv 0) da_nil))) (dw_and1 (dt_cmp (cm_in (u65_of hr)) (de_ix (hu_of hr) (dv 0) (dv 2)) (de_glob G_LETTERS))))) (dss_one (ds_aug (i := 2) zc_name_from.nd rfl (by first | exact .inl rfl | exact .inr rfl) de_int))) (dss_cons (ds_if (dt_not (dt_chain cm_le cm_le de_int (de_sub (dv 2) (dv 1)) (de_glob G_LONGEST_PASS_NAME))) (dss_one (ds_raiseI rfl xtk R_NoLine (Room.mono hr (by decide)) (dv 1))) dss_nil) (dss_one (ds_ret (de_tup (da_cons (de_sl (dv 0) (do_some (dv 1)) (do_some (dv 2))) (da_cons (dv 2) da_nil))))))))
abbrev n_bracket_from0 : List Str := ["text", "at", "depth", "items", "times"]
theorem zc_bracket_from0 : FnScope n_bracket_from0 ["text", "at", "depth"] (defScope s_bracket_from) := ⟨rfl, rfl, rfl, by decide +kernel, rfl, by decide +kernel, by decide +kernel⟩
noncomputable def m_bracket_from0 : Sv := (mSeq (mIf (bCmp eqD (eVar 2) (eC k_DEEPEST)) (mRaiseI "NoLine" (eVar 1)) mNil) (mSeq (mPat (pTup 2 (pCons (pName 3) (pCons (pName 1) pNil))) eNo) (mSeq (mIf (bCmp neD (eCall F_sign_at (aCons (eVar 0) (aCons (eVar 1) aNil))) (eC (.str ")"))) (mRaiseI "NoLine" (eVar 1)) mNil) (mSeq (mSet 4 (eCall F_sign_at (aCons (eVar 0) (aCons (eBin addD (eVar 1) (eC (.int 1))) aNil)))) (mSeq (mIf (tabIn true t_TIMES (eVar 4)) (mRaiseI "NoLine" (eBin addD (eVar 1) (eC (.int 1)))) mNil) (mRet (eTup (aCons (eTup (aCons (eTab t_TIMES (eVar 4)) (aCons (eB tupleD (aCons (eVar 3) aNil)) aNil))) (aCons (eBin addD (eVar 1) (eC (.int 2))) aNil)))))))))
noncomputable def F_bracket_from0 := runMo 5 m_bracket_from0
theorem fd_bracket_from0 {c : Ct} (D : Df c "bracket_from" s_bracket_from) (B : BI c) (G_DEEPEST : Glob c "DEEPEST" k_DEEPEST) (R_NoLine : ErrI c "NoLine" 1) (O_sign_at : FD c "sign_at" 2 ["text", "at"] F_sign_at) (T_TIMES : KD c "TIMES" t_TIMES) (T1_TIMES : KD1 c "TIMES" t_TIMES) : FD c "bracket_from" 3 ["text", "at", "depth"] F_bracket_from0 :=
  fd_ofN (m := m_bracket_from0) (N := n_bracket_from0) rfl D zc_bracket_from0 (by decide) (fun _ _ _ _ _ _ us hl => match us, hl with | [_, _, _], _ => rfl) fun f cd A outer s H E hr =>
  (dss_cons (ds_if (dt_cmp (cm_eq hr.units) (dv 2) (de_glob G_DEEPEST)) (dss_one (ds_raiseI rfl xtk R_NoLine (Room.mono hr (by decide)) (dv 1))) dss_nil) (dss_cons (ds_pat de_no (dg_tup rfl (dgs_cons (gn 3 zc_bracket_from0.nd) (dgs_cons (gn 1 zc_bracket_from0.nd) dgs_nil)))) (dss_cons (ds_if (dt_cmp (cm_ne hr.units) (de_call O_sign_at (Room.mono hr (by decide)) xpx (dan_cons (dv 0) (dan_cons (dv 1) dan_nil))) de_str) (dss_one (ds_raiseI rfl xtk R_NoLine (Room.mono hr (by decide)) (dv 1))) dss_nil) (dss_cons (dst 4 zc_bracket_from0.nd (de_call O_sign_at (Room.mono hr (by decide)) xpx (dan_cons (dv 0) (dan_cons (de_add (dv 1) de_int) dan_nil)))) (dss_cons (ds_if (dt_tabNotIn T_TIMES (dv 4)) (dss_one (ds_raiseI rfl xtk R_NoLine (Room.mono hr (by decide)) (de_add (dv 1) de_int))) dss_nil) (dss_one (ds_ret (de_tup (da_cons (de_tup (da_cons (de_tab T1_TIMES (dv 4)) (da_cons (de_tuple B.tuple (da_cons (dv 3) da_nil)) da_nil))) (da_cons (de_add (dv 1) de_int) da_nil))))))))))
abbrev n_item_from0 : List Str := ["text", "at", "depth"]
theorem zc_item_from0 : FnScope n_item_from0 ["text", "at", "depth"] (defScope s_item_from) := ⟨rfl, rfl, rfl, by decide +kernel, rfl, by decide +kernel, by decide +kernel⟩
noncomputable def m_item_from0 : Sv := (mSeq (mIf (bCmp eqD (eCall F_sign_at (aCons (eVar 0) (aCons (eVar 1) aNil))) (eC (.str "("))) (mRet (eCall F_bracket_from0 (aCons (eVar 0) (aCons (eVar 1) (aCons (eVar 2) aNil))))) mNil) (mRet (eCall F_name_from (aCons (eVar 0) (aCons (eVar 1) aNil)))))
noncomputable def F_item_from0 := runMo 3 m_item_from0
theorem fd_item_from0 {c : Ct} (D : Df c "item_from" s_item_from) (B : BI c) (O_sign_at : FD c "sign_at" 2 ["text", "at"] F_sign_at) (O_bracket_from0 : FD c "bracket_from" 3 ["text", "at", "depth"] F_bracket_from0) (O_name_from : FD c "name_from" 3 ["text", "at"] F_name_from) : FD c "item_from" 4 ["text", "at", "depth"] F_item_from0 :=
  fd_ofN (m := m_item_from0) (N := n_item_from0) rfl D zc_item_from0 (by decide) (fun _ _ _ _ _ _ us hl => match us, hl with | [_, _, _], _ => rfl) fun f cd A outer s H E hr =>
  (dss_cons (ds_if (dt_cmp (cm_eq hr.units) (de_call O_sign_at (Room.mono hr (by decide)) xpx (dan_cons (dv 0) (dan_cons (dv 1) dan_nil))) de_str) (dss_one (ds_ret (de_call O_bracket_from0 (Room.mono hr (by decide)) xpx (dan_cons (dv 0) (dan_cons (dv 1) (dan_cons (dv 2) dan_nil)))))) dss_nil) (dss_one (ds_ret (de_call O_name_from (Room.mono hr (by decide)) xpx (dan_cons (dv 0) (dan_cons (dv 1) dan_nil))))))
abbrev n_items_from0 : List Str := ["text", "at", "depth", "item", "items"]
theorem zc_items_from0 : FnScope n_items_from0 ["text", "at", "depth"] (defScope s_items_from) := ⟨rfl, rfl, rfl, by decide +kernel, rfl, by decide +kernel, by decide +kernel⟩
noncomputable def m_items_from0 : Sv := (mSeq (mPat (pTup 2 (pCons (pName 3) (pCons (pName 1) pNil))) (eCall F_item_from0 (aCons (eVar 0) (aCons (eVar 1) (aCons (eVar 2) aNil))))) (mSeq (mSet 4 (eLst (aCons (eVar 3) aNil))) (mSeq (mWhile (bTru (eCall F_leads_on (aCons (eVar 0) (aCons (eVar 1) aNil)))) (mSeq (mPat (pTup 2 (pCons (pName 3) (pCons (pName 1) pNil))) (eCall F_item_from0 (aCons (eVar 0) (aCons (eBin addD (eVar 1) (eC (.int 1))) (aCons (eVar 2) aNil))))) (mAppend 4 (eVar 3)))) (mFrz 4 (mRet (eTup (aCons (eVar 4) (aCons (eVar 1) aNil))))))))
noncomputable def F_items_from0 := runMo 5 m_items_from0
theorem fd_items_from0 {c : Ct} (D : Df c "items_from" s_items_from) (B : BI c) (O_item_from0 : FD c "item_from" 4 ["text", "at", "depth"] F_item_from0) (O_leads_on : FD c "leads_on" 3 ["text", "at"] F_leads_on) : FD c "items_from" 5 ["text", "at", "depth"] F_items_from0 :=
  fd_ofN (m := m_items_from0) (N := n_items_from0) rfl D zc_items_from0 (by decide) (fun _ _ _ _ _ _ us hl => match us, hl with | [_, _, _], _ => rfl) fun f cd A outer s H E hr =>
  (dss_cons (ds_pat (de_call O_item_from0 (Room.mono hr (by decide)) xpx (dan_cons (dv 0) (dan_cons (dv 1) (dan_cons (dv 2) dan_nil)))) (dg_tup rfl (dgs_cons (gn 3 zc_items_from0.nd) (dgs_cons (gn 1 zc_items_from0.nd) dgs_nil)))) (dss_cons (dst 4 zc_items_from0.nd (de_lst (da_cons (dv 3) da_nil))) (dss_cons (ds_while xpo (dt_tru (de_call O_leads_on (Room.mono hr (by decide)) xpx (dan_cons (dv 0) (dan_cons (dv 1) dan_nil)))) (dss_cons (ds_pat (de_call O_item_from0 (Room.mono hr (by decide)) xpx (dan_cons (dv 0) (dan_cons (de_add (dv 1) de_int) (dan_cons (dv 2) dan_nil)))) (dg_tup rfl (dgs_cons (gn 3 zc_items_from0.nd) (dgs_cons (gn 1 zc_items_from0.nd) dgs_nil)))) (dss_one (ds_append (i := 4) rfl (by first | exact .inl rfl | exact .inr (.inl rfl) | exact .inr (.inr rfl)) (dv 3))))) (dss_one (ds_frz 4 (ds_ret (de_tup (da_cons (dv 4) (da_cons (dv 1) da_nil)))))))))
abbrev n_bracket_from1 : List Str := ["text", "at", "depth", "items", "times"]
theorem zc_bracket_from1 : FnScope n_bracket_from1 ["text", "at", "depth"] (defScope s_bracket_from) := ⟨rfl, rfl, rfl, by decide +kernel, rfl, by decide +kernel, by decide +kernel⟩
noncomputable def m_bracket_from1 : Sv := (mSeq (mIf (bCmp eqD (eVar 2) (eC k_DEEPEST)) (mRaiseI "NoLine" (eVar 1)) mNil) (mSeq (mPat (pTup 2 (pCons (pName 3) (pCons (pName 1) pNil))) (eCall F_items_from0 (aCons (eVar 0) (aCons (eBin addD (eVar 1) (eC (.int 1))) (aCons (eBin addD (eVar 2) (eC (.int 1))) aNil))))) (mSeq (mIf (bCmp neD (eCall F_sign_at (aCons (eVar 0) (aCons (eVar 1) aNil))) (eC (.str ")"))) (mRaiseI "NoLine" (eVar 1)) mNil) (mSeq (mSet 4 (eCall F_sign_at (aCons (eVar 0) (aCons (eBin addD (eVar 1) (eC (.int 1))) aNil)))) (mSeq (mIf (tabIn true t_TIMES (eVar 4)) (mRaiseI "NoLine" (eBin addD (eVar 1) (eC (.int 1)))) mNil) (mRet (eTup (aCons (eTup (aCons (eTab t_TIMES (eVar 4)) (aCons (eB tupleD (aCons (eVar 3) aNil)) aNil))) (aCons (eBin addD (eVar 1) (eC (.int 2))) aNil)))))))))
noncomputable def F_bracket_from1 := runMo 5 m_bracket_from1
theorem fd_bracket_from1 {c : Ct} (D : Df c "bracket_from" s_bracket_from) (B : BI c) (G_DEEPEST : Glob c "DEEPEST" k_DEEPEST) (R_NoLine : ErrI c "NoLine" 1) (O_items_from0 : FD c "items_from" 5 ["text", "at", "depth"] F_items_from0) (O_sign_at : FD c "sign_at" 2 ["text", "at"] F_sign_at) (T_TIMES : KD c "TIMES" t_TIMES) (T1_TIMES : KD1 c "TIMES" t_TIMES) : FD c "bracket_from" 6 ["text", "at", "depth"] F_bracket_from1 :=
  fd_ofN (m := m_bracket_from1) (N := n_bracket_from1) rfl D zc_bracket_from1 (by decide) (fun _ _ _ _ _ _ us hl => match us, hl with | [_, _, _], _ => rfl) fun f cd A outer s H E hr =>
  (dss_cons (ds_if (dt_cmp (cm_eq hr.units) (dv 2) (de_glob G_DEEPEST)) (dss_one (ds_raiseI rfl xtk R_NoLine (Room.mono hr (by decide)) (dv 1))) dss_nil) (dss_cons (ds_pat (de_call O_items_from0 (Room.mono hr (by decide)) xpx (dan_cons (dv 0) (dan_cons (de_add (dv 1) de_int) (dan_cons (de_add (dv 2) de_int) dan_nil)))) (dg_tup rfl (dgs_cons (gn 3 zc_bracket_from1.nd) (dgs_cons (gn 1 zc_bracket_from1.nd) dgs_nil)))) (dss_cons (ds_if (dt_cmp (cm_ne hr.units) (de_call O_sign_at (Room.mono hr (by decide)) xpx (dan_cons (dv 0) (dan_cons (dv 1) dan_nil))) de_str) (dss_one (ds_raiseI rfl xtk R_NoLine (Room.mono hr (by decide)) (dv 1))) dss_nil) (dss_cons (dst 4 zc_bracket_from1.nd (de_call O_sign_at (Room.mono hr (by decide)) xpx (dan_cons (dv 0) (dan_cons (de_add (dv 1) de_int) dan_nil)))) (dss_cons (ds_if (dt_tabNotIn T_TIMES (dv 4)) (dss_one (ds_raiseI rfl xtk R_NoLine (Room.mono hr (by decide)) (de_add (dv 1) de_int))) dss_nil) (dss_one (ds_ret (de_tup (da_cons (de_tup (da_cons (de_tab T1_TIMES (dv 4)) (da_cons (de_tuple B.tuple (da_cons (dv 3) da_nil)) da_nil))) (da_cons (de_add (dv 1) de_int) da_nil))))))))))
abbrev n_item_from1 : List Str := ["text", "at", "depth"]
theorem zc_item_from1 : FnScope n_item_from1 ["text", "at", "depth"] (defScope s_item_from) := ⟨rfl, rfl, rfl, by decide +kernel, rfl, by decide +kernel, by decide +kernel⟩
noncomputable def m_item_from1 : Sv := (mSeq (mIf (bCmp eqD (eCall F_sign_at (aCons (eVar 0) (aCons (eVar 1) aNil))) (eC (.str "("))) (mRet (eCall F_bracket_from1 (aCons (eVar 0) (aCons (eVar 1) (aCons (eVar 2) aNil))))) mNil) (mRet (eCall F_name_from (aCons (eVar 0) (aCons (eVar 1) aNil)))))
noncomputable def F_item_from1 := runMo 3 m_item_from1
theorem fd_item_from1 {c : Ct} (D : Df c "item_from" s_item_from) (B : BI c) (O_sign_at : FD c "sign_at" 2 ["text", "at"] F_sign_at) (O_bracket_from1 : FD c "bracket_from" 6 ["text", "at", "depth"] F_bracket_from1) (O_name_from : FD c "name_from" 3 ["text", "at"] F_name_from) : FD c "item_from" 7 ["text", "at", "depth"] F_item_from1 :=
  fd_ofN (m := m_item_from1) (N := n_item_from1) rfl D zc_item_from1 (by decide) (fun _ _ _ _ _ _ us hl => match us, hl with | [_, _, _], _ => rfl) fun f cd A outer s H E hr =>
  (dss_cons (ds_if (dt_cmp (cm_eq hr.units) (de_call O_sign_at (Room.mono hr (by decide)) xpx (dan_cons (dv 0) (dan_cons (dv 1) dan_nil))) de_str) (dss_one (ds_ret (de_call O_bracket_from1 (Room.mono hr (by decide)) xpx (dan_cons (dv 0) (dan_cons (dv 1) (dan_cons (dv 2) dan_nil)))))) dss_nil) (dss_one (ds_ret (de_call O_name_from (Room.mono hr (by decide)) xpx (dan_cons (dv 0) (dan_cons (dv 1) dan_nil))))))
abbrev n_items_from1 : List Str := ["text", "at", "depth", "item", "items"]
theorem zc_items_from1 : FnScope n_items_from1 ["text", "at", "depth"] (defScope s_items_from) := ⟨rfl, rfl, rfl, by decide +kernel, rfl, by decide +kernel, by decide +kernel⟩
noncomputable def m_items_from1 : Sv := (mSeq (mPat (pTup 2 (pCons (pName 3) (pCons (pName 1) pNil))) (eCall F_item_from1 (aCons (eVar 0) (aCons (eVar 1) (aCons (eVar 2) aNil))))) (mSeq (mSet 4 (eLst (aCons (eVar 3) aNil))) (mSeq (mWhile (bTru (eCall F_leads_on (aCons (eVar 0) (aCons (eVar 1) aNil)))) (mSeq (mPat (pTup 2 (pCons (pName 3) (pCons (pName 1) pNil))) (eCall F_item_from1 (aCons (eVar 0) (aCons (eBin addD (eVar 1) (eC (.int 1))) (aCons (eVar 2) aNil))))) (mAppend 4 (eVar 3)))) (mFrz 4 (mRet (eTup (aCons (eVar 4) (aCons (eVar 1) aNil))))))))
noncomputable def F_items_from1 := runMo 5 m_items_from1
theorem fd_items_from1 {c : Ct} (D : Df c "items_from" s_items_from) (B : BI c) (O_item_from1 : FD c "item_from" 7 ["text", "at", "depth"] F_item_from1) (O_leads_on : FD c "leads_on" 3 ["text", "at"] F_leads_on) : FD c "items_from" 8 ["text", "at", "depth"] F_items_from1 :=
  fd_ofN (m := m_items_from1) (N := n_items_from1) rfl D zc_items_from1 (by decide) (fun _ _ _ _ _ _ us hl => match us, hl with | [_, _, _], _ => rfl) fun f cd A outer s H E hr =>
  (dss_cons (ds_pat (de_call O_item_from1 (Room.mono hr (by decide)) xpx (dan_cons (dv 0) (dan_cons (dv 1) (dan_cons (dv 2) dan_nil)))) (dg_tup rfl (dgs_cons (gn 3 zc_items_from1.nd) (dgs_cons (gn 1 zc_items_from1.nd) dgs_nil)))) (dss_cons (dst 4 zc_items_from1.nd (de_lst (da_cons (dv 3) da_nil))) (dss_cons (ds_while xpo (dt_tru (de_call O_leads_on (Room.mono hr (by decide)) xpx (dan_cons (dv 0) (dan_cons (dv 1) dan_nil)))) (dss_cons (ds_pat (de_call O_item_from1 (Room.mono hr (by decide)) xpx (dan_cons (dv 0) (dan_cons (de_add (dv 1) de_int) (dan_cons (dv 2) dan_nil)))) (dg_tup rfl (dgs_cons (gn 3 zc_items_from1.nd) (dgs_cons (gn 1 zc_items_from1.nd) dgs_nil)))) (dss_one (ds_append (i := 4) rfl (by first | exact .inl rfl | exact .inr (.inl rfl) | exact .inr (.inr rfl)) (dv 3))))) (dss_one (ds_frz 4 (ds_ret (de_tup (da_cons (dv 4) (da_cons (dv 1) da_nil)))))))))
abbrev n_bracket_from2 : List Str := ["text", "at", "depth", "items", "times"]
theorem zc_bracket_from2 : FnScope n_bracket_from2 ["text", "at", "depth"] (defScope s_bracket_from) := ⟨rfl, rfl, rfl, by decide +kernel, rfl, by decide +kernel, by decide +kernel⟩
noncomputable def m_bracket_from2 : Sv := (mSeq (mIf (bCmp eqD (eVar 2) (eC k_DEEPEST)) (mRaiseI "NoLine" (eVar 1)) mNil) (mSeq (mPat (pTup 2 (pCons (pName 3) (pCons (pName 1) pNil))) (eCall F_items_from1 (aCons (eVar 0) (aCons (eBin addD (eVar 1) (eC (.int 1))) (aCons (eBin addD (eVar 2) (eC (.int 1))) aNil))))) (mSeq (mIf (bCmp neD (eCall F_sign_at (aCons (eVar 0) (aCons (eVar 1) aNil))) (eC (.str ")"))) (mRaiseI "NoLine" (eVar 1)) mNil) (mSeq (mSet 4 (eCall F_sign_at (aCons (eVar 0) (aCons (eBin addD (eVar 1) (eC (.int 1))) aNil)))) (mSeq (mIf (tabIn true t_TIMES (eVar 4)) (mRaiseI "NoLine" (eBin addD (eVar 1) (eC (.int 1)))) mNil) (mRet (eTup (aCons (eTup (aCons (eTab t_TIMES (eVar 4)) (aCons (eB tupleD (aCons (eVar 3) aNil)) aNil))) (aCons (eBin addD (eVar 1) (eC (.int 2))) aNil)))))))))
noncomputable def F_bracket_from2 := runMo 5 m_bracket_from2
theorem fd_bracket_from2 {c : Ct} (D : Df c "bracket_from" s_bracket_from) (B : BI c) (G_DEEPEST : Glob c "DEEPEST" k_DEEPEST) (R_NoLine : ErrI c "NoLine" 1) (O_items_from1 : FD c "items_from" 8 ["text", "at", "depth"] F_items_from1) (O_sign_at : FD c "sign_at" 2 ["text", "at"] F_sign_at) (T_TIMES : KD c "TIMES" t_TIMES) (T1_TIMES : KD1 c "TIMES" t_TIMES) : FD c "bracket_from" 9 ["text", "at", "depth"] F_bracket_from2 :=
  fd_ofN (m := m_bracket_from2) (N := n_bracket_from2) rfl D zc_bracket_from2 (by decide) (fun _ _ _ _ _ _ us hl => match us, hl with | [_, _, _], _ => rfl) fun f cd A outer s H E hr =>
  (dss_cons (ds_if (dt_cmp (cm_eq hr.units) (dv 2) (de_glob G_DEEPEST)) (dss_one (ds_raiseI rfl xtk R_NoLine (Room.mono hr (by decide)) (dv 1))) dss_nil) (dss_cons (ds_pat (de_call O_items_from1 (Room.mono hr (by decide)) xpx (dan_cons (dv 0) (dan_cons (de_add (dv 1) de_int) (dan_cons (de_add (dv 2) de_int) dan_nil)))) (dg_tup rfl (dgs_cons (gn 3 zc_bracket_from2.nd) (dgs_cons (gn 1 zc_bracket_from2.nd) dgs_nil)))) (dss_cons (ds_if (dt_cmp (cm_ne hr.units) (de_call O_sign_at (Room.mono hr (by decide)) xpx (dan_cons (dv 0) (dan_cons (dv 1) dan_nil))) de_str) (dss_one (ds_raiseI rfl xtk R_NoLine (Room.mono hr (by decide)) (dv 1))) dss_nil) (dss_cons (dst 4 zc_bracket_from2.nd (de_call O_sign_at (Room.mono hr (by decide)) xpx (dan_cons (dv 0) (dan_cons (de_add (dv 1) de_int) dan_nil)))) (dss_cons (ds_if (dt_tabNotIn T_TIMES (dv 4)) (dss_one (ds_raiseI rfl xtk R_NoLine (Room.mono hr (by decide)) (de_add (dv 1) de_int))) dss_nil) (dss_one (ds_ret (de_tup (da_cons (de_tup (da_cons (de_tab T1_TIMES (dv 4)) (da_cons (de_tuple B.tuple (da_cons (dv 3) da_nil)) da_nil))) (da_cons (de_add (dv 1) de_int) da_nil))))))))))
abbrev n_item_from2 : List Str := ["text", "at", "depth"]
theorem zc_item_from2 : FnScope n_item_from2 ["text", "at", "depth"] (defScope s_item_from) := ⟨rfl, rfl, rfl, by decide +kernel, rfl, by decide +kernel, by decide +kernel⟩
noncomputable def m_item_from2 : Sv := (mSeq (mIf (bCmp eqD (eCall F_sign_at (aCons (eVar 0) (aCons (eVar 1) aNil))) (eC (.str "("))) (mRet (eCall F_bracket_from2 (aCons (eVar 0) (aCons (eVar 1) (aCons (eVar 2) aNil))))) mNil) (mRet (eCall F_name_from (aCons (eVar 0) (aCons (eVar 1) aNil)))))
noncomputable def F_item_from2 := runMo 3 m_item_from2
theorem fd_item_from2 {c : Ct} (D : Df c "item_from" s_item_from) (B : BI c) (O_sign_at : FD c "sign_at" 2 ["text", "at"] F_sign_at) (O_bracket_from2 : FD c "bracket_from" 9 ["text", "at", "depth"] F_bracket_from2) (O_name_from : FD c "name_from" 3 ["text", "at"] F_name_from) : FD c "item_from" 10 ["text", "at", "depth"] F_item_from2 :=
  fd_ofN (m := m_item_from2) (N := n_item_from2) rfl D zc_item_from2 (by decide) (fun _ _ _ _ _ _ us hl => match us, hl with | [_, _, _], _ => rfl) fun f cd A outer s H E hr =>
  (dss_cons (ds_if (dt_cmp (cm_eq hr.units) (de_call O_sign_at (Room.mono hr (by decide)) xpx (dan_cons (dv 0) (dan_cons (dv 1) dan_nil))) de_str) (dss_one (ds_ret (de_call O_bracket_from2 (Room.mono hr (by decide)) xpx (dan_cons (dv 0) (dan_cons (dv 1) (dan_cons (dv 2) dan_nil)))))) dss_nil) (dss_one (ds_ret (de_call O_name_from (Room.mono hr (by decide)) xpx (dan_cons (dv 0) (dan_cons (dv 1) dan_nil))))))
abbrev n_items_from2 : List Str := ["text", "at", "depth", "item", "items"]
theorem zc_items_from2 : FnScope n_items_from2 ["text", "at", "depth"] (defScope s_items_from) := ⟨rfl, rfl, rfl, by decide +kernel, rfl, by decide +kernel, by decide +kernel⟩
noncomputable def m_items_from2 : Sv := (mSeq (mPat (pTup 2 (pCons (pName 3) (pCons (pName 1) pNil))) (eCall F_item_from2 (aCons (eVar 0) (aCons (eVar 1) (aCons (eVar 2) aNil))))) (mSeq (mSet 4 (eLst (aCons (eVar 3) aNil))) (mSeq (mWhile (bTru (eCall F_leads_on (aCons (eVar 0) (aCons (eVar 1) aNil)))) (mSeq (mPat (pTup 2 (pCons (pName 3) (pCons (pName 1) pNil))) (eCall F_item_from2 (aCons (eVar 0) (aCons (eBin addD (eVar 1) (eC (.int 1))) (aCons (eVar 2) aNil))))) (mAppend 4 (eVar 3)))) (mFrz 4 (mRet (eTup (aCons (eVar 4) (aCons (eVar 1) aNil))))))))
noncomputable def F_items_from2 := runMo 5 m_items_from2
theorem fd_items_from2 {c : Ct} (D : Df c "items_from" s_items_from) (B : BI c) (O_item_from2 : FD c "item_from" 10 ["text", "at", "depth"] F_item_from2) (O_leads_on : FD c "leads_on" 3 ["text", "at"] F_leads_on) : FD c "items_from" 11 ["text", "at", "depth"] F_items_from2 :=
  fd_ofN (m := m_items_from2) (N := n_items_from2) rfl D zc_items_from2 (by decide) (fun _ _ _ _ _ _ us hl => match us, hl with | [_, _, _], _ => rfl) fun f cd A outer s H E hr =>
  (dss_cons (ds_pat (de_call O_item_from2 (Room.mono hr (by decide)) xpx (dan_cons (dv 0) (dan_cons (dv 1) (dan_cons (dv 2) dan_nil)))) (dg_tup rfl (dgs_cons (gn 3 zc_items_from2.nd) (dgs_cons (gn 1 zc_items_from2.nd) dgs_nil)))) (dss_cons (dst 4 zc_items_from2.nd (de_lst (da_cons (dv 3) da_nil))) (dss_cons (ds_while xpo (dt_tru (de_call O_leads_on (Room.mono hr (by decide)) xpx (dan_cons (dv 0) (dan_cons (dv 1) dan_nil)))) (dss_cons (ds_pat (de_call O_item_from2 (Room.mono hr (by decide)) xpx (dan_cons (dv 0) (dan_cons (de_add (dv 1) de_int) (dan_cons (dv 2) dan_nil)))) (dg_tup rfl (dgs_cons (gn 3 zc_items_from2.nd) (dgs_cons (gn 1 zc_items_from2.nd) dgs_nil)))) (dss_one (ds_append (i := 4) rfl (by first | exact .inl rfl | exact .inr (.inl rfl) | exact .inr (.inr rfl)) (dv 3))))) (dss_one (ds_frz 4 (ds_ret (de_tup (da_cons (dv 4) (da_cons (dv 1) da_nil)))))))))
abbrev n_bracket_from3 : List Str := ["text", "at", "depth", "items", "times"]
theorem zc_bracket_from3 : FnScope n_bracket_from3 ["text", "at", "depth"] (defScope s_bracket_from) := ⟨rfl, rfl, rfl, by decide +kernel, rfl, by decide +kernel, by decide +kernel⟩
noncomputable def m_bracket_from3 : Sv := (mSeq (mIf (bCmp eqD (eVar 2) (eC k_DEEPEST)) (mRaiseI "NoLine" (eVar 1)) mNil) (mSeq (mPat (pTup 2 (pCons (pName 3) (pCons (pName 1) pNil))) (eCall F_items_from2 (aCons (eVar 0) (aCons (eBin addD (eVar 1) (eC (.int 1))) (aCons (eBin addD (eVar 2) (eC (.int 1))) aNil))))) (mSeq (mIf (bCmp neD (eCall F_sign_at (aCons (eVar 0) (aCons (eVar 1) aNil))) (eC (.str ")"))) (mRaiseI "NoLine" (eVar 1)) mNil) (mSeq (mSet 4 (eCall F_sign_at (aCons (eVar 0) (aCons (eBin addD (eVar 1) (eC (.int 1))) aNil)))) (mSeq (mIf (tabIn true t_TIMES (eVar 4)) (mRaiseI "NoLine" (eBin addD (eVar 1) (eC (.int 1)))) mNil) (mRet (eTup (aCons (eTup (aCons (eTab t_TIMES (eVar 4)) (aCons (eB tupleD (aCons (eVar 3) aNil)) aNil))) (aCons (eBin addD (eVar 1) (eC (.int 2))) aNil)))))))))
noncomputable def F_bracket_from3 := runMo 5 m_bracket_from3
theorem fd_bracket_from3 {c : Ct} (D : Df c "bracket_from" s_bracket_from) (B : BI c) (G_DEEPEST : Glob c "DEEPEST" k_DEEPEST) (R_NoLine : ErrI c "NoLine" 1) (O_items_from2 : FD c "items_from" 11 ["text", "at", "depth"] F_items_from2) (O_sign_at : FD c "sign_at" 2 ["text", "at"] F_sign_at) (T_TIMES : KD c "TIMES" t_TIMES) (T1_TIMES : KD1 c "TIMES" t_TIMES) : FD c "bracket_from" 12 ["text", "at", "depth"] F_bracket_from3 :=
  fd_ofN (m := m_bracket_from3) (N := n_bracket_from3) rfl D zc_bracket_from3 (by decide) (fun _ _ _ _ _ _ us hl => match us, hl with | [_, _, _], _ => rfl) fun f cd A outer s H E hr =>
  (dss_cons (ds_if (dt_cmp (cm_eq hr.units) (dv 2) (de_glob G_DEEPEST)) (dss_one (ds_raiseI rfl xtk R_NoLine (Room.mono hr (by decide)) (dv 1))) dss_nil) (dss_cons (ds_pat (de_call O_items_from2 (Room.mono hr (by decide)) xpx (dan_cons (dv 0) (dan_cons (de_add (dv 1) de_int) (dan_cons (de_add (dv 2) de_int) dan_nil)))) (dg_tup rfl (dgs_cons (gn 3 zc_bracket_from3.nd) (dgs_cons (gn 1 zc_bracket_from3.nd) dgs_nil)))) (dss_cons (ds_if (dt_cmp (cm_ne hr.units) (de_call O_sign_at (Room.mono hr (by decide)) xpx (dan_cons (dv 0) (dan_cons (dv 1) dan_nil))) de_str) (dss_one (ds_raiseI rfl xtk R_NoLine (Room.mono hr (by decide)) (dv 1))) dss_nil) (dss_cons (dst 4 zc_bracket_from3.nd (de_call O_sign_at (Room.mono hr (by decide)) xpx (dan_cons (dv 0) (dan_cons (de_add (dv 1) de_int) dan_nil)))) (dss_cons (ds_if (dt_tabNotIn T_TIMES (dv 4)) (dss_one (ds_raiseI rfl xtk R_NoLine (Room.mono hr (by decide)) (de_add (dv 1) de_int))) dss_nil) (dss_one (ds_ret (de_tup (da_cons (de_tup (da_cons (de_tab T1_TIMES (dv 4)) (da_cons (de_tuple B.tuple (da_cons (dv 3) da_nil)) da_nil))) (da_cons (de_add (dv 1) de_int) da_nil))))))))))
abbrev n_item_from3 : List Str := ["text", "at", "depth"]
theorem zc_item_from3 : FnScope n_item_from3 ["text", "at", "depth"] (defScope s_item_from) := ⟨rfl, rfl, rfl, by decide +kernel, rfl, by decide +kernel, by decide +kernel⟩
noncomputable def m_item_from3 : Sv := (mSeq (mIf (bCmp eqD (eCall F_sign_at (aCons (eVar 0) (aCons (eVar 1) aNil))) (eC (.str "("))) (mRet (eCall F_bracket_from3 (aCons (eVar 0) (aCons (eVar 1) (aCons (eVar 2) aNil))))) mNil) (mRet (eCall F_name_from (aCons (eVar 0) (aCons (eVar 1) aNil)))))
noncomputable def F_item_from3 := runMo 3 m_item_from3
theorem fd_item_from3 {c : Ct} (D : Df c "item_from" s_item_from) (B : BI c) (O_sign_at : FD c "sign_at" 2 ["text", "at"] F_sign_at) (O_bracket_from3 : FD c "bracket_from" 12 ["text", "at", "depth"] F_bracket_from3) (O_name_from : FD c "name_from" 3 ["text", "at"] F_name_from) : FD c "item_from" 13 ["text", "at", "depth"] F_item_from3 :=
  fd_ofN (m := m_item_from3) (N := n_item_from3) rfl D zc_item_from3 (by decide) (fun _ _ _ _ _ _ us hl => match us, hl with | [_, _, _], _ => rfl) fun f cd A outer s H E hr =>
  (dss_cons (ds_if (dt_cmp (cm_eq hr.units) (de_call O_sign_at (Room.mono hr (by decide)) xpx (dan_cons (dv 0) (dan_cons (dv 1) dan_nil))) de_str) (dss_one (ds_ret (de_call O_bracket_from3 (Room.mono hr (by decide)) xpx (dan_cons (dv 0) (dan_cons (dv 1) (dan_cons (dv 2) dan_nil)))))) dss_nil) (dss_one (ds_ret (de_call O_name_from (Room.mono hr (by decide)) xpx (dan_cons (dv 0) (dan_cons (dv 1) dan_nil))))))
abbrev n_items_from3 : List Str := ["text", "at", "depth", "item", "items"]
theorem zc_items_from3 : FnScope n_items_from3 ["text", "at", "depth"] (defScope s_items_from) := ⟨rfl, rfl, rfl, by decide +kernel, rfl, by decide +kernel, by decide +kernel⟩
noncomputable def m_items_from3 : Sv := (mSeq (mPat (pTup 2 (pCons (pName 3) (pCons (pName 1) pNil))) (eCall F_item_from3 (aCons (eVar 0) (aCons (eVar 1) (aCons (eVar 2) aNil))))) (mSeq (mSet 4 (eLst (aCons (eVar 3) aNil))) (mSeq (mWhile (bTru (eCall F_leads_on (aCons (eVar 0) (aCons (eVar 1) aNil)))) (mSeq (mPat (pTup 2 (pCons (pName 3) (pCons (pName 1) pNil))) (eCall F_item_from3 (aCons (eVar 0) (aCons (eBin addD (eVar 1) (eC (.int 1))) (aCons (eVar 2) aNil))))) (mAppend 4 (eVar 3)))) (mFrz 4 (mRet (eTup (aCons (eVar 4) (aCons (eVar 1) aNil))))))))
noncomputable def F_items_from3 := runMo 5 m_items_from3
theorem fd_items_from3 {c : Ct} (D : Df c "items_from" s_items_from) (B : BI c) (O_item_from3 : FD c "item_from" 13 ["text", "at", "depth"] F_item_from3) (O_leads_on : FD c "leads_on" 3 ["text", "at"] F_leads_on) : FD c "items_from" 14 ["text", "at", "depth"] F_items_from3 :=
  fd_ofN (m := m_items_from3) (N := n_items_from3) rfl D zc_items_from3 (by decide) (fun _ _ _ _ _ _ us hl => match us, hl with | [_, _, _], _ => rfl) fun f cd A outer s H E hr =>
  (dss_cons (ds_pat (de_call O_item_from3 (Room.mono hr (by decide)) xpx (dan_cons (dv 0) (dan_cons (dv 1) (dan_cons (dv 2) dan_nil)))) (dg_tup rfl (dgs_cons (gn 3 zc_items_from3.nd) (dgs_cons (gn 1 zc_items_from3.nd) dgs_nil)))) (dss_cons (dst 4 zc_items_from3.nd (de_lst (da_cons (dv 3) da_nil))) (dss_cons (ds_while xpo (dt_tru (de_call O_leads_on (Room.mono hr (by decide)) xpx (dan_cons (dv 0) (dan_cons (dv 1) dan_nil)))) (dss_cons (ds_pat (de_call O_item_from3 (Room.mono hr (by decide)) xpx (dan_cons (dv 0) (dan_cons (de_add (dv 1) de_int) (dan_cons (dv 2) dan_nil)))) (dg_tup rfl (dgs_cons (gn 3 zc_items_from3.nd) (dgs_cons (gn 1 zc_items_from3.nd) dgs_nil)))) (dss_one (ds_append (i := 4) rfl (by first | exact .inl rfl | exact .inr (.inl rfl) | exact .inr (.inr rfl)) (dv 3))))) (dss_one (ds_frz 4 (ds_ret (de_tup (da_cons (dv 4) (da_cons (dv 1) da_nil)))))))))
abbrev n_bracket_from4 : List Str := ["text", "at", "depth", "items", "times"]
theorem zc_bracket_from4 : FnScope n_bracket_from4 ["text", "at", "depth"] (defScope s_bracket_from) := ⟨rfl, rfl, rfl, by decide +kernel, rfl, by decide +kernel, by decide +kernel⟩
noncomputable def m_bracket_from4 : Sv := (mSeq (mIf (bCmp eqD (eVar 2) (eC k_DEEPEST)) (mRaiseI "NoLine" (eVar 1)) mNil) (mSeq (mPat (pTup 2 (pCons (pName 3) (pCons (pName 1) pNil))) (eCall F_items_from3 (aCons (eVar 0) (aCons (eBin addD (eVar 1) (eC (.int 1))) (aCons (eBin addD (eVar 2) (eC (.int 1))) aNil))))) (mSeq (mIf (bCmp neD (eCall F_sign_at (aCons (eVar 0) (aCons (eVar 1) aNil))) (eC (.str ")"))) (mRaiseI "NoLine" (eVar 1)) mNil) (mSeq (mSet 4 (eCall F_sign_at (aCons (eVar 0) (aCons (eBin addD (eVar 1) (eC (.int 1))) aNil)))) (mSeq (mIf (tabIn true t_TIMES (eVar 4)) (mRaiseI "NoLine" (eBin addD (eVar 1) (eC (.int 1)))) mNil) (mRet (eTup (aCons (eTup (aCons (eTab t_TIMES (eVar 4)) (aCons (eB tupleD (aCons (eVar 3) aNil)) aNil))) (aCons (eBin addD (eVar 1) (eC (.int 2))) aNil)))))))))
noncomputable def F_bracket_from4 := runMo 5 m_bracket_from4
theorem fd_bracket_from4 {c : Ct} (D : Df c "bracket_from" s_bracket_from) (B : BI c) (G_DEEPEST : Glob c "DEEPEST" k_DEEPEST) (R_NoLine : ErrI c "NoLine" 1) (O_items_from3 : FD c "items_from" 14 ["text", "at", "depth"] F_items_from3) (O_sign_at : FD c "sign_at" 2 ["text", "at"] F_sign_at) (T_TIMES : KD c "TIMES" t_TIMES) (T1_TIMES : KD1 c "TIMES" t_TIMES) : FD c "bracket_from" 15 ["text", "at", "depth"] F_bracket_from4 :=
  fd_ofN (m := m_bracket_from4) (N := n_bracket_from4) rfl D zc_bracket_from4 (by decide) (fun _ _ _ _ _ _ us hl => match us, hl with | [_, _, _], _ => rfl) fun f cd A outer s H E hr =>
  (dss_cons (ds_if (dt_cmp (cm_eq hr.units) (dv 2) (de_glob G_DEEPEST)) (dss_one (ds_raiseI rfl xtk R_NoLine (Room.mono hr (by decide)) (dv 1))) dss_nil) (dss_cons (ds_pat (de_call O_items_from3 (Room.mono hr (by decide)) xpx (dan_cons (dv 0) (dan_cons (de_add (dv 1) de_int) (dan_cons (de_add (dv 2) de_int) dan_nil)))) (dg_tup rfl (dgs_cons (gn 3 zc_bracket_from4.nd) (dgs_cons (gn 1 zc_bracket_from4.nd) dgs_nil)))) (dss_cons (ds_if (dt_cmp (cm_ne hr.units) (de_call O_sign_at (Room.mono hr (by decide)) xpx (dan_cons (dv 0) (dan_cons (dv 1) dan_nil))) de_str) (dss_one (ds_raiseI rfl xtk R_NoLine (Room.mono hr (by decide)) (dv 1))) dss_nil) (dss_cons (dst 4 zc_bracket_from4.nd (de_call O_sign_at (Room.mono hr (by decide)) xpx (dan_cons (dv 0) (dan_cons (de_add (dv 1) de_int) dan_nil)))) (dss_cons (ds_if (dt_tabNotIn T_TIMES (dv 4)) (dss_one (ds_raiseI rfl xtk R_NoLine (Room.mono hr (by decide)) (de_add (dv 1) de_int))) dss_nil) (dss_one (ds_ret (de_tup (da_cons (de_tup (da_cons (de_tab T1_TIMES (dv 4)) (da_cons (de_tuple B.tuple (da_cons (dv 3) da_nil)) da_nil))) (da_cons (de_add (dv 1) de_int) da_nil))))))))))
abbrev n_item_from4 : List Str := ["text", "at", "depth"]
theorem zc_item_from4 : FnScope n_item_from4 ["text", "at", "depth"] (defScope s_item_from) := ⟨rfl, rfl, rfl, by decide +kernel, rfl, by decide +kernel, by decide +kernel⟩
noncomputable def m_item_from4 : Sv := (mSeq (mIf (bCmp eqD (eCall F_sign_at (aCons (eVar 0) (aCons (eVar 1) aNil))) (eC (.str "("))) (mRet (eCall F_bracket_from4 (aCons (eVar 0) (aCons (eVar 1) (aCons (eVar 2) aNil))))) mNil) (mRet (eCall F_name_from (aCons (eVar 0) (aCons (eVar 1) aNil)))))
noncomputable def F_item_from4 := runMo 3 m_item_from4
theorem fd_item_from4 {c : Ct} (D : Df c "item_from" s_item_from) (B : BI c) (O_sign_at : FD c "sign_at" 2 ["text", "at"] F_sign_at) (O_bracket_from4 : FD c "bracket_from" 15 ["text", "at", "depth"] F_bracket_from4) (O_name_from : FD c "name_from" 3 ["text", "at"] F_name_from) : FD c "item_from" 16 ["text", "at", "depth"] F_item_from4 :=
  fd_ofN (m := m_item_from4) (N := n_item_from4) rfl D zc_item_from4 (by decide) (fun _ _ _ _ _ _ us hl => match us, hl with | [_, _, _], _ => rfl) fun f cd A outer s H E hr =>
  (dss_cons (ds_if (dt_cmp (cm_eq hr.units) (de_call O_sign_at (Room.mono hr (by decide)) xpx (dan_cons (dv 0) (dan_cons (dv 1) dan_nil))) de_str) (dss_one (ds_ret (de_call O_bracket_from4 (Room.mono hr (by decide)) xpx (dan_cons (dv 0) (dan_cons (dv 1) (dan_cons (dv 2) dan_nil)))))) dss_nil) (dss_one (ds_ret (de_call O_name_from (Room.mono hr (by decide)) xpx (dan_cons (dv 0) (dan_cons (dv 1) dan_nil))))))
abbrev n_items_from4 : List Str := ["text", "at", "depth", "item", "items"]
theorem zc_items_from4 : FnScope n_items_from4 ["text", "at", "depth"] (defScope s_items_from) := ⟨rfl, rfl, rfl, by decide +kernel, rfl, by decide +kernel, by decide +kernel⟩
noncomputable def m_items_from4 : Sv := (mSeq (mPat (pTup 2 (pCons (pName 3) (pCons (pName 1) pNil))) (eCall F_item_from4 (aCons (eVar 0) (aCons (eVar 1) (aCons (eVar 2) aNil))))) (mSeq (mSet 4 (eLst (aCons (eVar 3) aNil))) (mSeq (mWhile (bTru (eCall F_leads_on (aCons (eVar 0) (aCons (eVar 1) aNil)))) (mSeq (mPat (pTup 2 (pCons (pName 3) (pCons (pName 1) pNil))) (eCall F_item_from4 (aCons (eVar 0) (aCons (eBin addD (eVar 1) (eC (.int 1))) (aCons (eVar 2) aNil))))) (mAppend 4 (eVar 3)))) (mFrz 4 (mRet (eTup (aCons (eVar 4) (aCons (eVar 1) aNil))))))))
noncomputable def F_items_from4 := runMo 5 m_items_from4
theorem fd_items_from4 {c : Ct} (D : Df c "items_from" s_items_from) (B : BI c) (O_item_from4 : FD c "item_from" 16 ["text", "at", "depth"] F_item_from4) (O_leads_on : FD c "leads_on" 3 ["text", "at"] F_leads_on) : FD c "items_from" 17 ["text", "at", "depth"] F_items_from4 :=
  fd_ofN (m := m_items_from4) (N := n_items_from4) rfl D zc_items_from4 (by decide) (fun _ _ _ _ _ _ us hl => match us, hl with | [_, _, _], _ => rfl) fun f cd A outer s H E hr =>
  (dss_cons (ds_pat (de_call O_item_from4 (Room.mono hr (by decide)) xpx (dan_cons (dv 0) (dan_cons (dv 1) (dan_cons (dv 2) dan_nil)))) (dg_tup rfl (dgs_cons (gn 3 zc_items_from4.nd) (dgs_cons (gn 1 zc_items_from4.nd) dgs_nil)))) (dss_cons (dst 4 zc_items_from4.nd (de_lst (da_cons (dv 3) da_nil))) (dss_cons (ds_while xpo (dt_tru (de_call O_leads_on (Room.mono hr (by decide)) xpx (dan_cons (dv 0) (dan_cons (dv 1) dan_nil)))) (dss_cons (ds_pat (de_call O_item_from4 (Room.mono hr (by decide)) xpx (dan_cons (dv 0) (dan_cons (de_add (dv 1) de_int) (dan_cons (dv 2) dan_nil)))) (dg_tup rfl (dgs_cons (gn 3 zc_items_from4.nd) (dgs_cons (gn 1 zc_items_from4.nd) dgs_nil)))) (dss_one (ds_append (i := 4) rfl (by first | exact .inl rfl | exact .inr (.inl rfl) | exact .inr (.inr rfl)) (dv 3))))) (dss_one (ds_frz 4 (ds_ret (de_tup (da_cons (dv 4) (da_cons (dv 1) da_nil)))))))))
abbrev n_read_line : List Str := ["text", "items", "at"]
theorem zc_read_line : FnScope n_read_line ["text"] (defScope s_read_line) := ⟨rfl, rfl, rfl, by decide +kernel, rfl, by decide +kernel, by decide +kernel⟩
noncomputable def m_read_line : Sv := (mSeq (mIf (bNot (bTru (eIsi "str" (eVar 0)))) (mRaiseI "NoLine" (eC (.int 0))) mNil) (mSeq (mIf (bCmp eqD (eVar 0) (eC (.str ""))) (mRet (eLst aNil)) mNil) (mSeq (mPat (pTup 2 (pCons (pName 1) (pCons (pName 2) pNil))) (eCall F_items_from4 (aCons (eVar 0) (aCons (eC (.int 0)) (aCons (eC (.int 0)) aNil))))) (mSeq (mIf (bCmp ltD (eVar 2) (eB lenD (aCons (eVar 0) aNil))) (mRaiseI "NoLine" (eVar 2)) mNil) (mRetV 1)))))
noncomputable def F_read_line := runMo 3 m_read_line
theorem fd_read_line {c : Ct} (D : Df c "read_line" s_read_line) (B : BI c) (J : BJ c) (R_NoLine : ErrI c "NoLine" 1) (O_items_from4 : FD c "items_from" 17 ["text", "at", "depth"] F_items_from4) : FD c "read_line" 18 ["text"] F_read_line :=
  fd_ofN (m := m_read_line) (N := n_read_line) rfl D zc_read_line (by decide) (fun _ _ _ _ _ _ us hl => match us, hl with | [_], _ => rfl) fun f cd A outer s H E hr =>
  (dss_cons (ds_if (dt_not (dt_tru (de_isi (T := "str") J.isi J.str (by simp) (by decide +kernel) (dv 0)))) (dss_one (ds_raiseI rfl xtk R_NoLine (Room.mono hr (by decide)) de_int)) dss_nil) (dss_cons (ds_if (dt_cmp (cm_eq hr.units) (dv 0) de_str) (dss_one (ds_ret (de_lst da_nil))) dss_nil) (dss_cons (ds_pat (de_call O_items_from4 (Room.mono hr (by decide)) xpx (dan_cons (dv 0) (dan_cons de_int (dan_cons de_int dan_nil)))) (dg_tup rfl (dgs_cons (gn 1 zc_read_line.nd) (dgs_cons (gn 2 zc_read_line.nd) dgs_nil)))) (dss_cons (ds_if (dt_cmp cm_lt (dv 2) (de_len B.len (da_cons (dv 0) da_nil))) (dss_one (ds_raiseI rfl xtk R_NoLine (Room.mono hr (by decide)) (dv 2))) dss_nil) (dss_one (dretV 1))))))
abbrev n_is_item0 : List Str := ["thing", "depth", "times", "items"]
theorem zc_is_item0 : FnScope n_is_item0 ["thing", "depth"] (defScope s_is_item) := ⟨rfl, rfl, rfl, by decide +kernel, rfl, by decide +kernel, by decide +kernel⟩
noncomputable def m_is_item0 : Sv := (mSeq (mIf (bNot (bTru (eIsi "tuple" (eVar 0)))) (mRet (eCall F_is_pass_name (aCons (eVar 0) aNil))) mNil) (mSeq (mIf (bOr (bCmp neD (eB lenD (aCons (eVar 0) aNil)) (eC (.int 2))) (bCmp eqD (eVar 1) (eC k_DEEPEST))) (mRet (eC (.bl false))) mNil) (mSeq (mPat (pTup 2 (pCons (pName 2) (pCons (pName 3) pNil))) (eVar 0)) (mSeq (mIf (bAnd (bCmp isNotD (eVar 2) (eC .non)) (bNot (bTru (eCall F_is_whole (aCons (eVar 2) (aCons (eC (.int 1)) (aCons (eC (.int 9)) aNil))))))) (mRet (eC (.bl false))) mNil) (mRet (eAnd (eIsi "tuple" (eVar 3)) (eAnd (eCmp gtD (eB lenD (aCons (eVar 3) aNil)) (eC (.int 0))) eNo)))))))
noncomputable def F_is_item0 := runMo 4 m_is_item0
theorem fd_is_item0 {c : Ct} (D : Df c "is_item" s_is_item) (B : BI c) (J : BJ c) (O_is_pass_name : FD c "is_pass_name" 3 ["thing"] F_is_pass_name) (G_DEEPEST : Glob c "DEEPEST" k_DEEPEST) (O_is_whole : FD c "is_whole" 2 ["thing", "low", "high"] F_is_whole) : FD c "is_item" 4 ["thing", "depth"] F_is_item0 :=
  fd_ofN (m := m_is_item0) (N := n_is_item0) rfl D zc_is_item0 (by decide) (fun _ _ _ _ _ _ us hl => match us, hl with | [_, _], _ => rfl) fun f cd A outer s H E hr =>
  (dss_cons (ds_if (dt_not (dt_tru (de_isi (T := "tuple") J.isi B.tuple (by simp) (by decide +kernel) (dv 0)))) (dss_one (ds_ret (de_call O_is_pass_name (Room.mono hr (by decide)) xpx (dan_cons (dv 0) dan_nil)))) dss_nil) (dss_cons (ds_if (DW.dt (dw_or (dt_cmp (cm_ne hr.units) (de_len B.len (da_cons (dv 0) da_nil)) de_int) (dw_or1 (dt_cmp (cm_eq hr.units) (dv 1) (de_glob G_DEEPEST))))) (dss_one (ds_ret de_bl)) dss_nil) (dss_cons (ds_pat (dv 0) (dg_tup rfl (dgs_cons (gn 2 zc_is_item0.nd) (dgs_cons (gn 3 zc_is_item0.nd) dgs_nil)))) (dss_cons (ds_if (DW.dt (dw_and (dt_cmp cm_isnot (dv 2) de_non) (dw_and1 (dt_not (dt_tru (de_call O_is_whole (Room.mono hr (by decide)) xpx (dan_cons (dv 2) (dan_cons de_int (dan_cons de_int dan_nil))))))))) (dss_one (ds_ret de_bl)) dss_nil) (dss_one (ds_ret (de_and (de_isi (T := "tuple") J.isi B.tuple (by simp) (by decide +kernel) (dv 3)) (de_and (de_cmp cm_gt (de_len B.len (da_cons (dv 3) da_nil)) de_int) (de_one de_no)))))))))
abbrev n_are_items0 : List Str := ["things", "depth", "thing"]
theorem zc_are_items0 : FnScope n_are_items0 ["things", "depth"] (defScope s_are_items) := ⟨rfl, rfl, rfl, by decide +kernel, rfl, by decide +kernel, by decide +kernel⟩
theorem gk_are_items0_1 : GOk n_are_items0 (defScope s_are_items) (xScope (xSub (sVal (sAt (defBody s_are_items) 0)) 1)) [("thing", 2)] := gok_by (by decide +kernel) rfl rfl
noncomputable def m_are_items0 : Sv := (mRet (eAllG false (eCall F_is_item0 (aCons (eVar 2) (aCons (eVar 1) aNil))) ⟨(eIt (eVar 0)), (pName 2), bYes, [2]⟩))
noncomputable def F_are_items0 := runMo 3 m_are_items0
theorem fd_are_items0 {c : Ct} (D : Tf c "are_items" s_are_items) (B : BI c) (O_is_item0 : FD c "is_item" 4 ["thing", "depth"] F_is_item0) : FD c "are_items" 6 ["things", "depth"] F_are_items0 :=
  fd_ofTN (m := m_are_items0) (N := n_are_items0) rfl D zc_are_items0 (by decide) (fun _ _ _ _ _ _ us hl => match us, hl with | [_, _], _ => rfl) fun f cd tb A outer s H E TB hmt hr =>
  (dss_one (ds_ret (de_allG (cl := ⟨(eIt (eVar 0)), (pName 2), bYes, [2]⟩) rfl zc_are_items0.nd hr B.all TB hmt rfl gk_are_items0_1 rfl (di_seq (dv 0)) ⟨fun _ _ _ _ _ _ _ _ => (gn 2 zc_are_items0.nd), fun _ _ _ _ _ _ _ _ => dts_nil, by decide⟩ (fun _ _ _ _ _ _ _ _ => (de_call O_is_item0 (Room.mono (room_gen (k := 4) hr _) (by decide)) px_no (dan_cons (dv 2) (dan_cons (dv 1) dan_nil)))))))
abbrev n_is_item1 : List Str := ["thing", "depth", "times", "items"]
theorem zc_is_item1 : FnScope n_is_item1 ["thing", "depth"] (defScope s_is_item) := ⟨rfl, rfl, rfl, by decide +kernel, rfl, by decide +kernel, by decide +kernel⟩
noncomputable def m_is_item1 : Sv := (mSeq (mIf (bNot (bTru (eIsi "tuple" (eVar 0)))) (mRet (eCall F_is_pass_name (aCons (eVar 0) aNil))) mNil) (mSeq (mIf (bOr (bCmp neD (eB lenD (aCons (eVar 0) aNil)) (eC (.int 2))) (bCmp eqD (eVar 1) (eC k_DEEPEST))) (mRet (eC (.bl false))) mNil) (mSeq (mPat (pTup 2 (pCons (pName 2) (pCons (pName 3) pNil))) (eVar 0)) (mSeq (mIf (bAnd (bCmp isNotD (eVar 2) (eC .non)) (bNot (bTru (eCall F_is_whole (aCons (eVar 2) (aCons (eC (.int 1)) (aCons (eC (.int 9)) aNil))))))) (mRet (eC (.bl false))) mNil) (mRet (eAnd (eIsi "tuple" (eVar 3)) (eAnd (eCmp gtD (eB lenD (aCons (eVar 3) aNil)) (eC (.int 0))) (eCall F_are_items0 (aCons (eVar 3) (aCons (eBin addD (eVar 1) (eC (.int 1))) aNil))))))))))
noncomputable def F_is_item1 := runMo 4 m_is_item1
theorem fd_is_item1 {c : Ct} (D : Df c "is_item" s_is_item) (B : BI c) (J : BJ c) (O_is_pass_name : FD c "is_pass_name" 3 ["thing"] F_is_pass_name) (G_DEEPEST : Glob c "DEEPEST" k_DEEPEST) (O_is_whole : FD c "is_whole" 2 ["thing", "low", "high"] F_is_whole) (O_are_items0 : FD c "are_items" 6 ["things", "depth"] F_are_items0) : FD c "is_item" 7 ["thing", "depth"] F_is_item1 :=
  fd_ofN (m := m_is_item1) (N := n_is_item1) rfl D zc_is_item1 (by decide) (fun _ _ _ _ _ _ us hl => match us, hl with | [_, _], _ => rfl) fun f cd A outer s H E hr =>
  (dss_cons (ds_if (dt_not (dt_tru (de_isi (T := "tuple") J.isi B.tuple (by simp) (by decide +kernel) (dv 0)))) (dss_one (ds_ret (de_call O_is_pass_name (Room.mono hr (by decide)) xpx (dan_cons (dv 0) dan_nil)))) dss_nil) (dss_cons (ds_if (DW.dt (dw_or (dt_cmp (cm_ne hr.units) (de_len B.len (da_cons (dv 0) da_nil)) de_int) (dw_or1 (dt_cmp (cm_eq hr.units) (dv 1) (de_glob G_DEEPEST))))) (dss_one (ds_ret de_bl)) dss_nil) (dss_cons (ds_pat (dv 0) (dg_tup rfl (dgs_cons (gn 2 zc_is_item1.nd) (dgs_cons (gn 3 zc_is_item1.nd) dgs_nil)))) (dss_cons (ds_if (DW.dt (dw_and (dt_cmp cm_isnot (dv 2) de_non) (dw_and1 (dt_not (dt_tru (de_call O_is_whole (Room.mono hr (by decide)) xpx (dan_cons (dv 2) (dan_cons de_int (dan_cons de_int dan_nil))))))))) (dss_one (ds_ret de_bl)) dss_nil) (dss_one (ds_ret (de_and (de_isi (T := "tuple") J.isi B.tuple (by simp) (by decide +kernel) (dv 3)) (de_and (de_cmp cm_gt (de_len B.len (da_cons (dv 3) da_nil)) de_int) (de_one (de_call O_are_items0 (Room.mono hr (by decide)) xpx (dan_cons (dv 3) (dan_cons (de_add (dv 1) de_int) dan_nil))))))))))))
abbrev n_are_items1 : List Str := ["things", "depth", "thing"]
theorem zc_are_items1 : FnScope n_are_items1 ["things", "depth"] (defScope s_are_items) := ⟨rfl, rfl, rfl, by decide +kernel, rfl, by decide +kernel, by decide +kernel⟩
theorem gk_are_items1_1 : GOk n_are_items1 (defScope s_are_items) (xScope (xSub (sVal (sAt (defBody s_are_items) 0)) 1)) [("thing", 2)] := gok_by (by decide +kernel) rfl rfl
noncomputable def m_are_items1 : Sv := (mRet (eAllG false (eCall F_is_item1 (aCons (eVar 2) (aCons (eVar 1) aNil))) ⟨(eIt (eVar 0)), (pName 2), bYes, [2]⟩))
noncomputable def F_are_items1 := runMo 3 m_are_items1
theorem fd_are_items1 {c : Ct} (D : Tf c "are_items" s_are_items) (B : BI c) (O_is_item1 : FD c "is_item" 7 ["thing", "depth"] F_is_item1) : FD c "are_items" 9 ["things", "depth"] F_are_items1 :=
  fd_ofTN (m := m_are_items1) (N := n_are_items1) rfl D zc_are_items1 (by decide) (fun _ _ _ _ _ _ us hl => match us, hl with | [_, _], _ => rfl) fun f cd tb A outer s H E TB hmt hr =>
  (dss_one (ds_ret (de_allG (cl := ⟨(eIt (eVar 0)), (pName 2), bYes, [2]⟩) rfl zc_are_items1.nd hr B.all TB hmt rfl gk_are_items1_1 rfl (di_seq (dv 0)) ⟨fun _ _ _ _ _ _ _ _ => (gn 2 zc_are_items1.nd), fun _ _ _ _ _ _ _ _ => dts_nil, by decide⟩ (fun _ _ _ _ _ _ _ _ => (de_call O_is_item1 (Room.mono (room_gen (k := 7) hr _) (by decide)) px_no (dan_cons (dv 2) (dan_cons (dv 1) dan_nil)))))))
abbrev n_is_item2 : List Str := ["thing", "depth", "times", "items"]
theorem zc_is_item2 : FnScope n_is_item2 ["thing", "depth"] (defScope s_is_item) := ⟨rfl, rfl, rfl, by decide +kernel, rfl, by decide +kernel, by decide +kernel⟩
noncomputable def m_is_item2 : Sv := (mSeq (mIf (bNot (bTru (eIsi "tuple" (eVar 0)))) (mRet (eCall F_is_pass_name (aCons (eVar 0) aNil))) mNil) (mSeq (mIf (bOr (bCmp neD (eB lenD (aCons (eVar 0) aNil)) (eC (.int 2))) (bCmp eqD (eVar 1) (eC k_DEEPEST))) (mRet (eC (.bl false))) mNil) (mSeq (mPat (pTup 2 (pCons (pName 2) (pCons (pName 3) pNil))) (eVar 0)) (mSeq (mIf (bAnd (bCmp isNotD (eVar 2) (eC .non)) (bNot (bTru (eCall F_is_whole (aCons (eVar 2) (aCons (eC (.int 1)) (aCons (eC (.int 9)) aNil))))))) (mRet (eC (.bl false))) mNil) (mRet (eAnd (eIsi "tuple" (eVar 3)) (eAnd (eCmp gtD (eB lenD (aCons (eVar 3) aNil)) (eC (.int 0))) (eCall F_are_items1 (aCons (eVar 3) (aCons (eBin addD (eVar 1) (eC (.int 1))) aNil))))))))))
noncomputable def F_is_item2 := runMo 4 m_is_item2
theorem fd_is_item2 {c : Ct} (D : Df c "is_item" s_is_item) (B : BI c) (J : BJ c) (O_is_pass_name : FD c "is_pass_name" 3 ["thing"] F_is_pass_name) (G_DEEPEST : Glob c "DEEPEST" k_DEEPEST) (O_is_whole : FD c "is_whole" 2 ["thing", "low", "high"] F_is_whole) (O_are_items1 : FD c "are_items" 9 ["things", "depth"] F_are_items1) : FD c "is_item" 10 ["thing", "depth"] F_is_item2 :=
  fd_ofN (m := m_is_item2) (N := n_is_item2) rfl D zc_is_item2 (by decide) (fun _ _ _ _ _ _ us hl => match us, hl with | [_, _], _ => rfl) fun f cd A outer s H E hr =>
  (dss_cons (ds_if (dt_not (dt_tru (de_isi (T := "tuple") J.isi B.tuple (by simp) (by decide +kernel) (dv 0)))) (dss_one (ds_ret (de_call O_is_pass_name (Room.mono hr (by decide)) xpx (dan_cons (dv 0) dan_nil)))) dss_nil) (dss_cons (ds_if (DW.dt (dw_or (dt_cmp (cm_ne hr.units) (de_len B.len (da_cons (dv 0) da_nil)) de_int) (dw_or1 (dt_cmp (cm_eq hr.units) (dv 1) (de_glob G_DEEPEST))))) (dss_one (ds_ret de_bl)) dss_nil) (dss_cons (ds_pat (dv 0) (dg_tup rfl (dgs_cons (gn 2 zc_is_item2.nd) (dgs_cons (gn 3 zc_is_item2.nd) dgs_nil)))) (dss_cons (ds_if (DW.dt (dw_and (dt_cmp cm_isnot (dv 2) de_non) (dw_and1 (dt_not (dt_tru (de_call O_is_whole (Room.mono hr (by decide)) xpx (dan_cons (dv 2) (dan_cons de_int (dan_cons de_int dan_nil))))))))) (dss_one (ds_ret de_bl)) dss_nil) (dss_one (ds_ret (de_and (de_isi (T := "tuple") J.isi B.tuple (by simp) (by decide +kernel) (dv 3)) (de_and (de_cmp cm_gt (de_len B.len (da_cons (dv 3) da_nil)) de_int) (de_one (de_call O_are_items1 (Room.mono hr (by decide)) xpx (dan_cons (dv 3) (dan_cons (de_add (dv 1) de_int) dan_nil))))))))))))
abbrev n_are_items2 : List Str := ["things", "depth", "thing"]
theorem zc_are_items2 : FnScope n_are_items2 ["things", "depth"] (defScope s_are_items) := ⟨rfl, rfl, rfl, by decide +kernel, rfl, by decide +kernel, by decide +kernel⟩
theorem gk_are_items2_1 : GOk n_are_items2 (defScope s_are_items) (xScope (xSub (sVal (sAt (defBody s_are_items) 0)) 1)) [("thing", 2)] := gok_by (by decide +kernel) rfl rfl
noncomputable def m_are_items2 : Sv := (mRet (eAllG false (eCall F_is_item2 (aCons (eVar 2) (aCons (eVar 1) aNil))) ⟨(eIt (eVar 0)), (pName 2), bYes, [2]⟩))
noncomputable def F_are_items2 := runMo 3 m_are_items2
theorem fd_are_items2 {c : Ct} (D : Tf c "are_items" s_are_items) (B : BI c) (O_is_item2 : FD c "is_item" 10 ["thing", "depth"] F_is_item2) : FD c "are_items" 12 ["things", "depth"] F_are_items2 :=
  fd_ofTN (m := m_are_items2) (N := n_are_items2) rfl D zc_are_items2 (by decide) (fun _ _ _ _ _ _ us hl => match us, hl with | [_, _], _ => rfl) fun f cd tb A outer s H E TB hmt hr =>
  (dss_one (ds_ret (de_allG (cl := ⟨(eIt (eVar 0)), (pName 2), bYes, [2]⟩) rfl zc_are_items2.nd hr B.all TB hmt rfl gk_are_items2_1 rfl (di_seq (dv 0)) ⟨fun _ _ _ _ _ _ _ _ => (gn 2 zc_are_items2.nd), fun _ _ _ _ _ _ _ _ => dts_nil, by decide⟩ (fun _ _ _ _ _ _ _ _ => (de_call O_is_item2 (Room.mono (room_gen (k := 10) hr _) (by decide)) px_no (dan_cons (dv 2) (dan_cons (dv 1) dan_nil)))))))
abbrev n_is_item3 : List Str := ["thing", "depth", "times", "items"]
theorem zc_is_item3 : FnScope n_is_item3 ["thing", "depth"] (defScope s_is_item) := ⟨rfl, rfl, rfl, by decide +kernel, rfl, by decide +kernel, by decide +kernel⟩
noncomputable def m_is_item3 : Sv := (mSeq (mIf (bNot (bTru (eIsi "tuple" (eVar 0)))) (mRet (eCall F_is_pass_name (aCons (eVar 0) aNil))) mNil) (mSeq (mIf (bOr (bCmp neD (eB lenD (aCons (eVar 0) aNil)) (eC (.int 2))) (bCmp eqD (eVar 1) (eC k_DEEPEST))) (mRet (eC (.bl false))) mNil) (mSeq (mPat (pTup 2 (pCons (pName 2) (pCons (pName 3) pNil))) (eVar 0)) (mSeq (mIf (bAnd (bCmp isNotD (eVar 2) (eC .non)) (bNot (bTru (eCall F_is_whole (aCons (eVar 2) (aCons (eC (.int 1)) (aCons (eC (.int 9)) aNil))))))) (mRet (eC (.bl false))) mNil) (mRet (eAnd (eIsi "tuple" (eVar 3)) (eAnd (eCmp gtD (eB lenD (aCons (eVar 3) aNil)) (eC (.int 0))) (eCall F_are_items2 (aCons (eVar 3) (aCons (eBin addD (eVar 1) (eC (.int 1))) aNil))))))))))
noncomputable def F_is_item3 := runMo 4 m_is_item3
theorem fd_is_item3 {c : Ct} (D : Df c "is_item" s_is_item) (B : BI c) (J : BJ c) (O_is_pass_name : FD c "is_pass_name" 3 ["thing"] F_is_pass_name) (G_DEEPEST : Glob c "DEEPEST" k_DEEPEST) (O_is_whole : FD c "is_whole" 2 ["thing", "low", "high"] F_is_whole) (O_are_items2 : FD c "are_items" 12 ["things", "depth"] F_are_items2) : FD c "is_item" 13 ["thing", "depth"] F_is_item3 :=
  fd_ofN (m := m_is_item3) (N := n_is_item3) rfl D zc_is_item3 (by decide) (fun _ _ _ _ _ _ us hl => match us, hl with | [_, _], _ => rfl) fun f cd A outer s H E hr =>
  (dss_cons (ds_if (dt_not (dt_tru (de_isi (T := "tuple") J.isi B.tuple (by simp) (by decide +kernel) (dv 0)))) (dss_one (ds_ret (de_call O_is_pass_name (Room.mono hr (by decide)) xpx (dan_cons (dv 0) dan_nil)))) dss_nil) (dss_cons (ds_if (DW.dt (dw_or (dt_cmp (cm_ne hr.units) (de_len B.len (da_cons (dv 0) da_nil)) de_int) (dw_or1 (dt_cmp (cm_eq hr.units) (dv 1) (de_glob G_DEEPEST))))) (dss_one (ds_ret de_bl)) dss_nil) (dss_cons (ds_pat (dv 0) (dg_tup rfl (dgs_cons (gn 2 zc_is_item3.nd) (dgs_cons (gn 3 zc_is_item3.nd) dgs_nil)))) (dss_cons (ds_if (DW.dt (dw_and (dt_cmp cm_isnot (dv 2) de_non) (dw_and1 (dt_not (dt_tru (de_call O_is_whole (Room.mono hr (by decide)) xpx (dan_cons (dv 2) (dan_cons de_int (dan_cons de_int dan_nil))))))))) (dss_one (ds_ret de_bl)) dss_nil) (dss_one (ds_ret (de_and (de_isi (T := "tuple") J.isi B.tuple (by simp) (by decide +kernel) (dv 3)) (de_and (de_cmp cm_gt (de_len B.len (da_cons (dv 3) da_nil)) de_int) (de_one (de_call O_are_items2 (Room.mono hr (by decide)) xpx (dan_cons (dv 3) (dan_cons (de_add (dv 1) de_int) dan_nil))))))))))))
abbrev n_are_items3 : List Str := ["things", "depth", "thing"]
theorem zc_are_items3 : FnScope n_are_items3 ["things", "depth"] (defScope s_are_items) := ⟨rfl, rfl, rfl, by decide +kernel, rfl, by decide +kernel, by decide +kernel⟩
theorem gk_are_items3_1 : GOk n_are_items3 (defScope s_are_items) (xScope (xSub (sVal (sAt (defBody s_are_items) 0)) 1)) [("thing", 2)] := gok_by (by decide +kernel) rfl rfl
noncomputable def m_are_items3 : Sv := (mRet (eAllG false (eCall F_is_item3 (aCons (eVar 2) (aCons (eVar 1) aNil))) ⟨(eIt (eVar 0)), (pName 2), bYes, [2]⟩))
noncomputable def F_are_items3 := runMo 3 m_are_items3
theorem fd_are_items3 {c : Ct} (D : Tf c "are_items" s_are_items) (B : BI c) (O_is_item3 : FD c "is_item" 13 ["thing", "depth"] F_is_item3) : FD c "are_items" 15 ["things", "depth"] F_are_items3 :=
  fd_ofTN (m := m_are_items3) (N := n_are_items3) rfl D zc_are_items3 (by decide) (fun _ _ _ _ _ _ us hl => match us, hl with | [_, _], _ => rfl) fun f cd tb A outer s H E TB hmt hr =>
  (dss_one (ds_ret (de_allG (cl := ⟨(eIt (eVar 0)), (pName 2), bYes, [2]⟩) rfl zc_are_items3.nd hr B.all TB hmt rfl gk_are_items3_1 rfl (di_seq (dv 0)) ⟨fun _ _ _ _ _ _ _ _ => (gn 2 zc_are_items3.nd), fun _ _ _ _ _ _ _ _ => dts_nil, by decide⟩ (fun _ _ _ _ _ _ _ _ => (de_call O_is_item3 (Room.mono (room_gen (k := 13) hr _) (by decide)) px_no (dan_cons (dv 2) (dan_cons (dv 1) dan_nil)))))))
abbrev n_is_item4 : List Str := ["thing", "depth", "times", "items"]
theorem zc_is_item4 : FnScope n_is_item4 ["thing", "depth"] (defScope s_is_item) := ⟨rfl, rfl, rfl, by decide +kernel, rfl, by decide +kernel, by decide +kernel⟩
noncomputable def m_is_item4 : Sv := (mSeq (mIf (bNot (bTru (eIsi "tuple" (eVar 0)))) (mRet (eCall F_is_pass_name (aCons (eVar 0) aNil))) mNil) (mSeq (mIf (bOr (bCmp neD (eB lenD (aCons (eVar 0) aNil)) (eC (.int 2))) (bCmp eqD (eVar 1) (eC k_DEEPEST))) (mRet (eC (.bl false))) mNil) (mSeq (mPat (pTup 2 (pCons (pName 2) (pCons (pName 3) pNil))) (eVar 0)) (mSeq (mIf (bAnd (bCmp isNotD (eVar 2) (eC .non)) (bNot (bTru (eCall F_is_whole (aCons (eVar 2) (aCons (eC (.int 1)) (aCons (eC (.int 9)) aNil))))))) (mRet (eC (.bl false))) mNil) (mRet (eAnd (eIsi "tuple" (eVar 3)) (eAnd (eCmp gtD (eB lenD (aCons (eVar 3) aNil)) (eC (.int 0))) (eCall F_are_items3 (aCons (eVar 3) (aCons (eBin addD (eVar 1) (eC (.int 1))) aNil))))))))))
noncomputable def F_is_item4 := runMo 4 m_is_item4
theorem fd_is_item4 {c : Ct} (D : Df c "is_item" s_is_item) (B : BI c) (J : BJ c) (O_is_pass_name : FD c "is_pass_name" 3 ["thing"] F_is_pass_name) (G_DEEPEST : Glob c "DEEPEST" k_DEEPEST) (O_is_whole : FD c "is_whole" 2 ["thing", "low", "high"] F_is_whole) (O_are_items3 : FD c "are_items" 15 ["things", "depth"] F_are_items3) : FD c "is_item" 16 ["thing", "depth"] F_is_item4 :=
  fd_ofN (m := m_is_item4) (N := n_is_item4) rfl D zc_is_item4 (by decide) (fun _ _ _ _ _ _ us hl => match us, hl with | [_, _], _ => rfl) fun f cd A outer s H E hr =>
  (dss_cons (ds_if (dt_not (dt_tru (de_isi (T := "tuple") J.isi B.tuple (by simp) (by decide +kernel) (dv 0)))) (dss_one (ds_ret (de_call O_is_pass_name (Room.mono hr (by decide)) xpx (dan_cons (dv 0) dan_nil)))) dss_nil) (dss_cons (ds_if (DW.dt (dw_or (dt_cmp (cm_ne hr.units) (de_len B.len (da_cons (dv 0) da_nil)) de_int) (dw_or1 (dt_cmp (cm_eq hr.units) (dv 1) (de_glob G_DEEPEST))))) (dss_one (ds_ret de_bl)) dss_nil) (dss_cons (ds_pat (dv 0) (dg_tup rfl (dgs_cons (gn 2 zc_is_item4.nd) (dgs_cons (gn 3 zc_is_item4.nd) dgs_nil)))) (dss_cons (ds_if (DW.dt (dw_and (dt_cmp cm_isnot (dv 2) de_non) (dw_and1 (dt_not (dt_tru (de_call O_is_whole (Room.mono hr (by decide)) xpx (dan_cons (dv 2) (dan_cons de_int (dan_cons de_int dan_nil))))))))) (dss_one (ds_ret de_bl)) dss_nil) (dss_one (ds_ret (de_and (de_isi (T := "tuple") J.isi B.tuple (by simp) (by decide +kernel) (dv 3)) (de_and (de_cmp cm_gt (de_len B.len (da_cons (dv 3) da_nil)) de_int) (de_one (de_call O_are_items3 (Room.mono hr (by decide)) xpx (dan_cons (dv 3) (dan_cons (de_add (dv 1) de_int) dan_nil))))))))))))
abbrev n_are_items4 : List Str := ["things", "depth", "thing"]
theorem zc_are_items4 : FnScope n_are_items4 ["things", "depth"] (defScope s_are_items) := ⟨rfl, rfl, rfl, by decide +kernel, rfl, by decide +kernel, by decide +kernel⟩
theorem gk_are_items4_1 : GOk n_are_items4 (defScope s_are_items) (xScope (xSub (sVal (sAt (defBody s_are_items) 0)) 1)) [("thing", 2)] := gok_by (by decide +kernel) rfl rfl
noncomputable def m_are_items4 : Sv := (mRet (eAllG false (eCall F_is_item4 (aCons (eVar 2) (aCons (eVar 1) aNil))) ⟨(eIt (eVar 0)), (pName 2), bYes, [2]⟩))
noncomputable def F_are_items4 := runMo 3 m_are_items4
theorem fd_are_items4 {c : Ct} (D : Tf c "are_items" s_are_items) (B : BI c) (O_is_item4 : FD c "is_item" 16 ["thing", "depth"] F_is_item4) : FD c "are_items" 18 ["things", "depth"] F_are_items4 :=
  fd_ofTN (m := m_are_items4) (N := n_are_items4) rfl D zc_are_items4 (by decide) (fun _ _ _ _ _ _ us hl => match us, hl with | [_, _], _ => rfl) fun f cd tb A outer s H E TB hmt hr =>
  (dss_one (ds_ret (de_allG (cl := ⟨(eIt (eVar 0)), (pName 2), bYes, [2]⟩) rfl zc_are_items4.nd hr B.all TB hmt rfl gk_are_items4_1 rfl (di_seq (dv 0)) ⟨fun _ _ _ _ _ _ _ _ => (gn 2 zc_are_items4.nd), fun _ _ _ _ _ _ _ _ => dts_nil, by decide⟩ (fun _ _ _ _ _ _ _ _ => (de_call O_is_item4 (Room.mono (room_gen (k := 16) hr _) (by decide)) px_no (dan_cons (dv 2) (dan_cons (dv 1) dan_nil)))))))
abbrev n_item_text0 : List Str := ["item", "times", "items", "mark"]
theorem zc_item_text0 : FnScope n_item_text0 ["item"] (defScope s_item_text) := ⟨rfl, rfl, rfl, by decide +kernel, rfl, by decide +kernel, by decide +kernel⟩
noncomputable def m_item_text0 : Sv := (mSeq (mIf (bTru (eIsi "str" (eVar 0))) (mRetV 0) mNil) (mSeq (mPat (pTup 2 (pCons (pName 1) (pCons (pName 2) pNil))) (eVar 0)) (mSeq (mSet 3 (eIf (bCmp isDt (eVar 1) (eC .non)) (eC (.str "+")) (eB strOD (aCons (eVar 1) aNil)))) (mRet (eJs (jCons (eC (.str "(")) (jCons (eFmt eNo) (jCons (eC (.str ")")) (jCons (eFmt (eVar 3)) jNil)))))))))
noncomputable def F_item_text0 := runMo 4 m_item_text0
theorem fd_item_text0 {c : Ct} (D : Df c "item_text" s_item_text) (B : BI c) (J : BJ c) : FD c "item_text" 2 ["item"] F_item_text0 :=
  fd_ofN (m := m_item_text0) (N := n_item_text0) rfl D zc_item_text0 (by decide) (fun _ _ _ _ _ _ us hl => match us, hl with | [_], _ => rfl) fun f cd A outer s H E hr =>
  (dss_cons (ds_if (dt_tru (de_isi (T := "str") J.isi J.str (by simp) (by decide +kernel) (dv 0))) (dss_one (dretV 0)) dss_nil) (dss_cons (ds_pat (dv 0) (dg_tup rfl (dgs_cons (gn 1 zc_item_text0.nd) (dgs_cons (gn 2 zc_item_text0.nd) dgs_nil)))) (dss_cons (dst 3 zc_item_text0.nd (de_if (dt_cmp cm_is (dv 1) de_non) de_str (de_strO J.str (da_cons (dv 1) da_nil)))) (dss_one (ds_ret (de_joined (dj_cons de_str (dj_cons (de_fmt de_no) (dj_cons de_str (dj_cons (de_fmt (dv 3)) dj_nil))))))))))
abbrev n_text_of0 : List Str := ["items", "item"]
theorem zc_text_of0 : FnScope n_text_of0 ["items"] (defScope s_text_of) := ⟨rfl, rfl, rfl, by decide +kernel, rfl, by decide +kernel, by decide +kernel⟩
theorem gk_text_of0_1 : GOk n_text_of0 (defScope s_text_of) (xScope (xSub (sVal (sAt (defBody s_text_of) 0)) 1)) [("item", 1)] := gok_by (by decide +kernel) rfl rfl
noncomputable def m_text_of0 : Sv := (mRet (eJoinX (eC (.str " ")) (eCall F_item_text0 (aCons (eVar 1) aNil)) ⟨(eIt (eVar 0)), (pName 1), bYes, [1]⟩))
noncomputable def F_text_of0 := runMo 2 m_text_of0
theorem fd_text_of0 {c : Ct} (D : Tf c "text_of" s_text_of) (B : BI c) (O_item_text0 : FD c "item_text" 2 ["item"] F_item_text0) : FD c "text_of" 4 ["items"] F_text_of0 :=
  fd_ofTN (m := m_text_of0) (N := n_text_of0) rfl D zc_text_of0 (by decide) (fun _ _ _ _ _ _ us hl => match us, hl with | [_], _ => rfl) fun f cd tb A outer s H E TB hmt hr =>
  (dss_one (ds_ret (de_joinX (cl := ⟨(eIt (eVar 0)), (pName 1), bYes, [1]⟩) rfl zc_text_of0.nd hr TB hmt rfl gk_text_of0_1 rfl de_str (di_seq (dv 0)) ⟨fun _ _ _ _ _ _ _ _ => (gn 1 zc_text_of0.nd), fun _ _ _ _ _ _ _ _ => dts_nil, by decide⟩ (fun _ _ _ _ code1 _ _ _ => (DE.g (de_call O_item_text0 (Room.mono (room_genJ (k := 2) hr _) (by decide)) px_no (dan_cons (dv 1) dan_nil)))))))
abbrev n_item_text1 : List Str := ["item", "times", "items", "mark"]
theorem zc_item_text1 : FnScope n_item_text1 ["item"] (defScope s_item_text) := ⟨rfl, rfl, rfl, by decide +kernel, rfl, by decide +kernel, by decide +kernel⟩
noncomputable def m_item_text1 : Sv := (mSeq (mIf (bTru (eIsi "str" (eVar 0))) (mRetV 0) mNil) (mSeq (mPat (pTup 2 (pCons (pName 1) (pCons (pName 2) pNil))) (eVar 0)) (mSeq (mSet 3 (eIf (bCmp isDt (eVar 1) (eC .non)) (eC (.str "+")) (eB strOD (aCons (eVar 1) aNil)))) (mRet (eJs (jCons (eC (.str "(")) (jCons (eFmt (eCall F_text_of0 (aCons (eVar 2) aNil))) (jCons (eC (.str ")")) (jCons (eFmt (eVar 3)) jNil)))))))))
noncomputable def F_item_text1 := runMo 4 m_item_text1
theorem fd_item_text1 {c : Ct} (D : Df c "item_text" s_item_text) (B : BI c) (J : BJ c) (O_text_of0 : FD c "text_of" 4 ["items"] F_text_of0) : FD c "item_text" 5 ["item"] F_item_text1 :=
  fd_ofN (m := m_item_text1) (N := n_item_text1) rfl D zc_item_text1 (by decide) (fun _ _ _ _ _ _ us hl => match us, hl with | [_], _ => rfl) fun f cd A outer s H E hr =>
  (dss_cons (ds_if (dt_tru (de_isi (T := "str") J.isi J.str (by simp) (by decide +kernel) (dv 0))) (dss_one (dretV 0)) dss_nil) (dss_cons (ds_pat (dv 0) (dg_tup rfl (dgs_cons (gn 1 zc_item_text1.nd) (dgs_cons (gn 2 zc_item_text1.nd) dgs_nil)))) (dss_cons (dst 3 zc_item_text1.nd (de_if (dt_cmp cm_is (dv 1) de_non) de_str (de_strO J.str (da_cons (dv 1) da_nil)))) (dss_one (ds_ret (de_joined (dj_cons de_str (dj_cons (de_fmt (de_call O_text_of0 (Room.mono hr (by decide)) xpx (dan_cons (dv 2) dan_nil))) (dj_cons de_str (dj_cons (de_fmt (dv 3)) dj_nil))))))))))
abbrev n_text_of1 : List Str := ["items", "item"]
theorem zc_text_of1 : FnScope n_text_of1 ["items"] (defScope s_text_of) := ⟨rfl, rfl, rfl, by decide +kernel, rfl, by decide +kernel, by decide +kernel⟩
theorem gk_text_of1_1 : GOk n_text_of1 (defScope s_text_of) (xScope (xSub (sVal (sAt (defBody s_text_of) 0)) 1)) [("item", 1)] := gok_by (by decide +kernel) rfl rfl
noncomputable def m_text_of1 : Sv := (mRet (eJoinX (eC (.str " ")) (eCall F_item_text1 (aCons (eVar 1) aNil)) ⟨(eIt (eVar 0)), (pName 1), bYes, [1]⟩))
noncomputable def F_text_of1 := runMo 2 m_text_of1
theorem fd_text_of1 {c : Ct} (D : Tf c "text_of" s_text_of) (B : BI c) (O_item_text1 : FD c "item_text" 5 ["item"] F_item_text1) : FD c "text_of" 7 ["items"] F_text_of1 :=
  fd_ofTN (m := m_text_of1) (N := n_text_of1) rfl D zc_text_of1 (by decide) (fun _ _ _ _ _ _ us hl => match us, hl with | [_], _ => rfl) fun f cd tb A outer s H E TB hmt hr =>
  (dss_one (ds_ret (de_joinX (cl := ⟨(eIt (eVar 0)), (pName 1), bYes, [1]⟩) rfl zc_text_of1.nd hr TB hmt rfl gk_text_of1_1 rfl de_str (di_seq (dv 0)) ⟨fun _ _ _ _ _ _ _ _ => (gn 1 zc_text_of1.nd), fun _ _ _ _ _ _ _ _ => dts_nil, by decide⟩ (fun _ _ _ _ code1 _ _ _ => (DE.g (de_call O_item_text1 (Room.mono (room_genJ (k := 5) hr _) (by decide)) px_no (dan_cons (dv 1) dan_nil)))))))
abbrev n_item_text2 : List Str := ["item", "times", "items", "mark"]
theorem zc_item_text2 : FnScope n_item_text2 ["item"] (defScope s_item_text) := ⟨rfl, rfl, rfl, by decide +kernel, rfl, by decide +kernel, by decide +kernel⟩
noncomputable def m_item_text2 : Sv := (mSeq (mIf (bTru (eIsi "str" (eVar 0))) (mRetV 0) mNil) (mSeq (mPat (pTup 2 (pCons (pName 1) (pCons (pName 2) pNil))) (eVar 0)) (mSeq (mSet 3 (eIf (bCmp isDt (eVar 1) (eC .non)) (eC (.str "+")) (eB strOD (aCons (eVar 1) aNil)))) (mRet (eJs (jCons (eC (.str "(")) (jCons (eFmt (eCall F_text_of1 (aCons (eVar 2) aNil))) (jCons (eC (.str ")")) (jCons (eFmt (eVar 3)) jNil)))))))))
noncomputable def F_item_text2 := runMo 4 m_item_text2
theorem fd_item_text2 {c : Ct} (D : Df c "item_text" s_item_text) (B : BI c) (J : BJ c) (O_text_of1 : FD c "text_of" 7 ["items"] F_text_of1) : FD c "item_text" 8 ["item"] F_item_text2 :=
  fd_ofN (m := m_item_text2) (N := n_item_text2) rfl D zc_item_text2 (by decide) (fun _ _ _ _ _ _ us hl => match us, hl with | [_], _ => rfl) fun f cd A outer s H E hr =>
  (dss_cons (ds_if (dt_tru (de_isi (T := "str") J.isi J.str (by simp) (by decide +kernel) (dv 0))) (dss_one (dretV 0)) dss_nil) (dss_cons (ds_pat (dv 0) (dg_tup rfl (dgs_cons (gn 1 zc_item_text2.nd) (dgs_cons (gn 2 zc_item_text2.nd) dgs_nil)))) (dss_cons (dst 3 zc_item_text2.nd (de_if (dt_cmp cm_is (dv 1) de_non) de_str (de_strO J.str (da_cons (dv 1) da_nil)))) (dss_one (ds_ret (de_joined (dj_cons de_str (dj_cons (de_fmt (de_call O_text_of1 (Room.mono hr (by decide)) xpx (dan_cons (dv 2) dan_nil))) (dj_cons de_str (dj_cons (de_fmt (dv 3)) dj_nil))))))))))
abbrev n_text_of2 : List Str := ["items", "item"]
theorem zc_text_of2 : FnScope n_text_of2 ["items"] (defScope s_text_of) := ⟨rfl, rfl, rfl, by decide +kernel, rfl, by decide +kernel, by decide +kernel⟩
theorem gk_text_of2_1 : GOk n_text_of2 (defScope s_text_of) (xScope (xSub (sVal (sAt (defBody s_text_of) 0)) 1)) [("item", 1)] := gok_by (by decide +kernel) rfl rfl
noncomputable def m_text_of2 : Sv := (mRet (eJoinX (eC (.str " ")) (eCall F_item_text2 (aCons (eVar 1) aNil)) ⟨(eIt (eVar 0)), (pName 1), bYes, [1]⟩))
noncomputable def F_text_of2 := runMo 2 m_text_of2
theorem fd_text_of2 {c : Ct} (D : Tf c "text_of" s_text_of) (B : BI c) (O_item_text2 : FD c "item_text" 8 ["item"] F_item_text2) : FD c "text_of" 10 ["items"] F_text_of2 :=
  fd_ofTN (m := m_text_of2) (N := n_text_of2) rfl D zc_text_of2 (by decide) (fun _ _ _ _ _ _ us hl => match us, hl with | [_], _ => rfl) fun f cd tb A outer s H E TB hmt hr =>
  (dss_one (ds_ret (de_joinX (cl := ⟨(eIt (eVar 0)), (pName 1), bYes, [1]⟩) rfl zc_text_of2.nd hr TB hmt rfl gk_text_of2_1 rfl de_str (di_seq (dv 0)) ⟨fun _ _ _ _ _ _ _ _ => (gn 1 zc_text_of2.nd), fun _ _ _ _ _ _ _ _ => dts_nil, by decide⟩ (fun _ _ _ _ code1 _ _ _ => (DE.g (de_call O_item_text2 (Room.mono (room_genJ (k := 8) hr _) (by decide)) px_no (dan_cons (dv 1) dan_nil)))))))
abbrev n_item_text3 : List Str := ["item", "times", "items", "mark"]
theorem zc_item_text3 : FnScope n_item_text3 ["item"] (defScope s_item_text) := ⟨rfl, rfl, rfl, by decide +kernel, rfl, by decide +kernel, by decide +kernel⟩
noncomputable def m_item_text3 : Sv := (mSeq (mIf (bTru (eIsi "str" (eVar 0))) (mRetV 0) mNil) (mSeq (mPat (pTup 2 (pCons (pName 1) (pCons (pName 2) pNil))) (eVar 0)) (mSeq (mSet 3 (eIf (bCmp isDt (eVar 1) (eC .non)) (eC (.str "+")) (eB strOD (aCons (eVar 1) aNil)))) (mRet (eJs (jCons (eC (.str "(")) (jCons (eFmt (eCall F_text_of2 (aCons (eVar 2) aNil))) (jCons (eC (.str ")")) (jCons (eFmt (eVar 3)) jNil)))))))))
noncomputable def F_item_text3 := runMo 4 m_item_text3
theorem fd_item_text3 {c : Ct} (D : Df c "item_text" s_item_text) (B : BI c) (J : BJ c) (O_text_of2 : FD c "text_of" 10 ["items"] F_text_of2) : FD c "item_text" 11 ["item"] F_item_text3 :=
  fd_ofN (m := m_item_text3) (N := n_item_text3) rfl D zc_item_text3 (by decide) (fun _ _ _ _ _ _ us hl => match us, hl with | [_], _ => rfl) fun f cd A outer s H E hr =>
  (dss_cons (ds_if (dt_tru (de_isi (T := "str") J.isi J.str (by simp) (by decide +kernel) (dv 0))) (dss_one (dretV 0)) dss_nil) (dss_cons (ds_pat (dv 0) (dg_tup rfl (dgs_cons (gn 1 zc_item_text3.nd) (dgs_cons (gn 2 zc_item_text3.nd) dgs_nil)))) (dss_cons (dst 3 zc_item_text3.nd (de_if (dt_cmp cm_is (dv 1) de_non) de_str (de_strO J.str (da_cons (dv 1) da_nil)))) (dss_one (ds_ret (de_joined (dj_cons de_str (dj_cons (de_fmt (de_call O_text_of2 (Room.mono hr (by decide)) xpx (dan_cons (dv 2) dan_nil))) (dj_cons de_str (dj_cons (de_fmt (dv 3)) dj_nil))))))))))
abbrev n_text_of3 : List Str := ["items", "item"]
theorem zc_text_of3 : FnScope n_text_of3 ["items"] (defScope s_text_of) := ⟨rfl, rfl, rfl, by decide +kernel, rfl, by decide +kernel, by decide +kernel⟩
theorem gk_text_of3_1 : GOk n_text_of3 (defScope s_text_of) (xScope (xSub (sVal (sAt (defBody s_text_of) 0)) 1)) [("item", 1)] := gok_by (by decide +kernel) rfl rfl
noncomputable def m_text_of3 : Sv := (mRet (eJoinX (eC (.str " ")) (eCall F_item_text3 (aCons (eVar 1) aNil)) ⟨(eIt (eVar 0)), (pName 1), bYes, [1]⟩))
noncomputable def F_text_of3 := runMo 2 m_text_of3
theorem fd_text_of3 {c : Ct} (D : Tf c "text_of" s_text_of) (B : BI c) (O_item_text3 : FD c "item_text" 11 ["item"] F_item_text3) : FD c "text_of" 13 ["items"] F_text_of3 :=
  fd_ofTN (m := m_text_of3) (N := n_text_of3) rfl D zc_text_of3 (by decide) (fun _ _ _ _ _ _ us hl => match us, hl with | [_], _ => rfl) fun f cd tb A outer s H E TB hmt hr =>
  (dss_one (ds_ret (de_joinX (cl := ⟨(eIt (eVar 0)), (pName 1), bYes, [1]⟩) rfl zc_text_of3.nd hr TB hmt rfl gk_text_of3_1 rfl de_str (di_seq (dv 0)) ⟨fun _ _ _ _ _ _ _ _ => (gn 1 zc_text_of3.nd), fun _ _ _ _ _ _ _ _ => dts_nil, by decide⟩ (fun _ _ _ _ code1 _ _ _ => (DE.g (de_call O_item_text3 (Room.mono (room_genJ (k := 11) hr _) (by decide)) px_no (dan_cons (dv 1) dan_nil)))))))
abbrev n_item_text4 : List Str := ["item", "times", "items", "mark"]
theorem zc_item_text4 : FnScope n_item_text4 ["item"] (defScope s_item_text) := ⟨rfl, rfl, rfl, by decide +kernel, rfl, by decide +kernel, by decide +kernel⟩
noncomputable def m_item_text4 : Sv := (mSeq (mIf (bTru (eIsi "str" (eVar 0))) (mRetV 0) mNil) (mSeq (mPat (pTup 2 (pCons (pName 1) (pCons (pName 2) pNil))) (eVar 0)) (mSeq (mSet 3 (eIf (bCmp isDt (eVar 1) (eC .non)) (eC (.str "+")) (eB strOD (aCons (eVar 1) aNil)))) (mRet (eJs (jCons (eC (.str "(")) (jCons (eFmt (eCall F_text_of3 (aCons (eVar 2) aNil))) (jCons (eC (.str ")")) (jCons (eFmt (eVar 3)) jNil)))))))))
noncomputable def F_item_text4 := runMo 4 m_item_text4
theorem fd_item_text4 {c : Ct} (D : Df c "item_text" s_item_text) (B : BI c) (J : BJ c) (O_text_of3 : FD c "text_of" 13 ["items"] F_text_of3) : FD c "item_text" 14 ["item"] F_item_text4 :=
  fd_ofN (m := m_item_text4) (N := n_item_text4) rfl D zc_item_text4 (by decide) (fun _ _ _ _ _ _ us hl => match us, hl with | [_], _ => rfl) fun f cd A outer s H E hr =>
  (dss_cons (ds_if (dt_tru (de_isi (T := "str") J.isi J.str (by simp) (by decide +kernel) (dv 0))) (dss_one (dretV 0)) dss_nil) (dss_cons (ds_pat (dv 0) (dg_tup rfl (dgs_cons (gn 1 zc_item_text4.nd) (dgs_cons (gn 2 zc_item_text4.nd) dgs_nil)))) (dss_cons (dst 3 zc_item_text4.nd (de_if (dt_cmp cm_is (dv 1) de_non) de_str (de_strO J.str (da_cons (dv 1) da_nil)))) (dss_one (ds_ret (de_joined (dj_cons de_str (dj_cons (de_fmt (de_call O_text_of3 (Room.mono hr (by decide)) xpx (dan_cons (dv 2) dan_nil))) (dj_cons de_str (dj_cons (de_fmt (dv 3)) dj_nil))))))))))
abbrev n_text_of4 : List Str := ["items", "item"]
theorem zc_text_of4 : FnScope n_text_of4 ["items"] (defScope s_text_of) := ⟨rfl, rfl, rfl, by decide +kernel, rfl, by decide +kernel, by decide +kernel⟩
theorem gk_text_of4_1 : GOk n_text_of4 (defScope s_text_of) (xScope (xSub (sVal (sAt (defBody s_text_of) 0)) 1)) [("item", 1)] := gok_by (by decide +kernel) rfl rfl
noncomputable def m_text_of4 : Sv := (mRet (eJoinX (eC (.str " ")) (eCall F_item_text4 (aCons (eVar 1) aNil)) ⟨(eIt (eVar 0)), (pName 1), bYes, [1]⟩))
noncomputable def F_text_of4 := runMo 2 m_text_of4
theorem fd_text_of4 {c : Ct} (D : Tf c "text_of" s_text_of) (B : BI c) (O_item_text4 : FD c "item_text" 14 ["item"] F_item_text4) : FD c "text_of" 16 ["items"] F_text_of4 :=
  fd_ofTN (m := m_text_of4) (N := n_text_of4) rfl D zc_text_of4 (by decide) (fun _ _ _ _ _ _ us hl => match us, hl with | [_], _ => rfl) fun f cd tb A outer s H E TB hmt hr =>
  (dss_one (ds_ret (de_joinX (cl := ⟨(eIt (eVar 0)), (pName 1), bYes, [1]⟩) rfl zc_text_of4.nd hr TB hmt rfl gk_text_of4_1 rfl de_str (di_seq (dv 0)) ⟨fun _ _ _ _ _ _ _ _ => (gn 1 zc_text_of4.nd), fun _ _ _ _ _ _ _ _ => dts_nil, by decide⟩ (fun _ _ _ _ code1 _ _ _ => (DE.g (de_call O_item_text4 (Room.mono (room_genJ (k := 14) hr _) (by decide)) px_no (dan_cons (dv 1) dan_nil)))))))
abbrev n_line_text : List Str := ["items"]
theorem zc_line_text : FnScope n_line_text ["items"] (defScope s_line_text) := ⟨rfl, rfl, rfl, by decide +kernel, rfl, by decide +kernel, by decide +kernel⟩
noncomputable def m_line_text : Sv := (mSeq (mIf (bOr (bNot (bTru (eIsi "list" (eVar 0)))) (bNot (bTru (eCall F_are_items4 (aCons (eVar 0) (aCons (eC (.int 0)) aNil)))))) (mRaiseI "NoLine" (eC (.int 0))) mNil) (mRet (eCall F_text_of4 (aCons (eVar 0) aNil))))
noncomputable def F_line_text := runMo 1 m_line_text
theorem fd_line_text {c : Ct} (D : Df c "line_text" s_line_text) (B : BI c) (J : BJ c) (O_are_items4 : FD c "are_items" 18 ["things", "depth"] F_are_items4) (R_NoLine : ErrI c "NoLine" 1) (O_text_of4 : FD c "text_of" 16 ["items"] F_text_of4) : FD c "line_text" 19 ["items"] F_line_text :=
  fd_ofN (m := m_line_text) (N := n_line_text) rfl D zc_line_text (by decide) (fun _ _ _ _ _ _ us hl => match us, hl with | [_], _ => rfl) fun f cd A outer s H E hr =>
  (dss_cons (ds_if (DW.dt (dw_or (dt_not (dt_tru (de_isi (T := "list") J.isi B.list (by simp) (by decide +kernel) (dv 0)))) (dw_or1 (dt_not (dt_tru (de_call O_are_items4 (Room.mono hr (by decide)) xpx (dan_cons (dv 0) (dan_cons de_int dan_nil)))))))) (dss_one (ds_raiseI rfl xtk R_NoLine (Room.mono hr (by decide)) de_int)) dss_nil) (dss_one (ds_ret (de_call O_text_of4 (Room.mono hr (by decide)) xpx (dan_cons (dv 0) dan_nil)))))
abbrev n_law_pick : List Str := ["_law_script", "_law_k", "_law_many", "_law_cell", "_law_rest", "_law_turn", "_law_drawn"]
theorem zc_law_pick : FnScope n_law_pick ["_law_script", "_law_k", "_law_many"] (defScope s_law_pick) := ⟨rfl, rfl, rfl, by decide +kernel, rfl, by decide +kernel, by decide +kernel⟩
noncomputable def m_law_pick : Sv := (mSeq (mSet 3 (eIf (bCmp neD (eVar 0) (eLst aNil)) (eIx (eVar 0) (eBin modD (eVar 1) (eB lenD (aCons (eVar 0) aNil)))) (eC (.int 0)))) (mSeq (mPars [4, 5] (aConsK (eBin fdivD (eVar 3) (eBin powD (eC (.int 10)) (eC (.int 18)))) (aConsK (eBin fdivD (eVar 1) (eB maxD (aCons (eB lenD (aCons (eVar 0) aNil)) (aCons (eC (.int 1)) aNil)))) aNil))) (mSeq (mWhile (bAnd (bCmp gtD (eVar 4) (eC (.int 0))) (bCmp gtD (eVar 5) (eC (.int 0)))) (mPars [4, 5] (aConsK (eBin fdivD (eVar 4) (eC (.int 840))) (aConsK (eBin subD (eVar 5) (eC (.int 1))) aNil)))) (mSeq (mIf (bCmp gtD (eVar 4) (eC (.int 0))) (mRet (eBin modD (eBin modD (eVar 4) (eC (.int 840))) (eVar 2))) mNil) (mSeq (mSet 6 (eBin modD (eBin mulD (eBin addD (eBin mulD (eVar 3) (eC (.int 31))) (eBin mulD (eC (.int 6151)) (eBin addD (eVar 1) (eC (.int 1))))) (eC (.int 40692))) (eC (.int 2147483399)))) (mRet (eBin modD (eBin modD (eBin addD (eBin mulD (eVar 6) (eVar 6)) (eBin fdivD (eVar 6) (eC (.int 31)))) (eC (.int 2147483629))) (eVar 2))))))))
noncomputable def F_law_pick := runMo 7 m_law_pick
theorem fd_law_pick {c : Ct} (D : Df c "_law_pick" s_law_pick) (B : BI c)  : FD c "_law_pick" 2 ["_law_script", "_law_k", "_law_many"] F_law_pick :=
  fd_ofN (m := m_law_pick) (N := n_law_pick) rfl D zc_law_pick (by decide) (fun _ _ _ _ _ _ us hl => match us, hl with | [_, _, _], _ => rfl) fun f cd A outer s H E hr =>
  (dss_cons (dst 3 zc_law_pick.nd (de_if (dt_cmp (cm_ne hr.units) (dv 0) (de_lst da_nil)) (de_ix (hu_of hr) (dv 0) (de_mod (dv 1) (de_len B.len (da_cons (dv 0) da_nil)))) de_int)) (dss_cons (ds_par2 (i := 4) (j := 5) rfl zc_law_pick.nd rfl rfl (by decide) rfl rfl (dp_cons (de_fdiv (dv 3) (de_pow de_int de_int)) (dp_cons (de_fdiv (dv 1) (de_max rfl B.max (da_cons (de_len B.len (da_cons (dv 0) da_nil)) (da_cons de_int da_nil)))) dp_nil))) (dss_cons (ds_while xpo (DW.dt (dw_and (dt_cmp cm_gt (dv 4) de_int) (dw_and1 (dt_cmp cm_gt (dv 5) de_int)))) (dss_one (ds_par2 (i := 4) (j := 5) rfl zc_law_pick.nd rfl rfl (by decide) rfl rfl (dp_cons (de_fdiv (dv 4) de_int) (dp_cons (de_sub (dv 5) de_int) dp_nil))))) (dss_cons (ds_if (dt_cmp cm_gt (dv 4) de_int) (dss_one (ds_ret (de_mod (de_mod (dv 4) de_int) (dv 2)))) dss_nil) (dss_cons (dst 6 zc_law_pick.nd (de_mod (de_mul (de_add (de_mul (dv 3) de_int) (de_mul de_int (de_add (dv 1) de_int))) de_int) de_int)) (dss_one (ds_ret (de_mod (de_mod (de_add (de_mul (dv 6) (dv 6)) (de_fdiv (dv 6) de_int)) de_int) (dv 2)))))))))
abbrev n_law_always : List Str := []
theorem zc_law_always : FnScope n_law_always [] (defScope s_law_always) := ⟨rfl, rfl, rfl, by decide +kernel, rfl, by decide +kernel, by decide +kernel⟩
noncomputable def m_law_always : Sv := (mRet (eLst (aCons (eC (.str "bend")) (aCons (eC (.str "dead")) (aCons (eC (.str "fold")) (aCons (eC (.str "join")) (aCons (eC (.str "prune")) (aCons (eC (.str "reuse")) (aCons (eC (.str "skip")) (aCons (eC (.str "spread")) aNil))))))))))
noncomputable def F_law_always := runMo 0 m_law_always
theorem fd_law_always {c : Ct} (D : Df c "_law_always" s_law_always) (B : BI c)  : FD c "_law_always" 2 [] F_law_always :=
  fd_ofN (m := m_law_always) (N := n_law_always) rfl D zc_law_always (by decide) (fun _ _ _ _ _ _ us hl => match us, hl with | [], _ => rfl) fun f cd A outer s H E hr =>
  (dss_one (ds_ret (de_lst (da_cons de_str (da_cons de_str (da_cons de_str (da_cons de_str (da_cons de_str (da_cons de_str (da_cons de_str (da_cons de_str da_nil)))))))))))
abbrev n_law_items0 : List Str := ["_law_script", "_law_at_here", "_law_deep", "_law_made", "_law_k", "_law_times"]
theorem zc_law_items0 : FnScope n_law_items0 ["_law_script", "_law_at_here", "_law_deep"] (defScope s_law_items) := ⟨rfl, rfl, rfl, by decide +kernel, rfl, by decide +kernel, by decide +kernel⟩
noncomputable def m_law_items0 : Sv := (mSeq (mSet 3 (eLst aNil)) (mSeq (mFor (eWv rngD1 (aCons (eBin addD (eC (.int 1)) (eCall F_law_pick (aCons (eVar 0) (aCons (eVar 1) (aCons (eC (.int 3)) aNil))))) aNil)) (pName 4) (mIf (bAnd (bCmp ltD (eVar 2) (eC (.int 2))) (bCmp eqD (eCall F_law_pick (aCons (eVar 0) (aCons (eBin addD (eBin addD (eVar 1) (eC (.int 1))) (eVar 4)) (aCons (eC (.int 3)) aNil)))) (eC (.int 0)))) (mSeq (mSet 5 (eIx (eLst (aCons (eC .non) (aCons (eC (.int 1)) (aCons (eC (.int 2)) (aCons (eC (.int 3)) aNil))))) (eCall F_law_pick (aCons (eVar 0) (aCons (eBin addD (eBin addD (eVar 1) (eC (.int 5))) (eVar 4)) (aCons (eC (.int 4)) aNil)))))) (mAppend 3 (eTup (aCons (eVar 5) (aCons (eB tupleD (aCons eNo aNil)) aNil))))) (mAppend 3 (eIx (eBin addD (eCall F_law_always aNil) (eLst (aCons (eC (.str "mine")) aNil))) (eCall F_law_pick (aCons (eVar 0) (aCons (eBin addD (eBin addD (eVar 1) (eC (.int 9))) (eVar 4)) (aCons (eC (.int 9)) aNil)))))))) (mRetV 3)))
noncomputable def F_law_items0 := runMo 6 m_law_items0
theorem fd_law_items0 {c : Ct} (D : Df c "_law_items" s_law_items) (B : BI c) (O_law_pick : FD c "_law_pick" 2 ["_law_script", "_law_k", "_law_many"] F_law_pick) (O_law_always : FD c "_law_always" 2 [] F_law_always) : FD c "_law_items" 3 ["_law_script", "_law_at_here", "_law_deep"] F_law_items0 :=
  fd_ofN (m := m_law_items0) (N := n_law_items0) rfl D zc_law_items0 (by decide) (fun _ _ _ _ _ _ us hl => match us, hl with | [_, _, _], _ => rfl) fun f cd A outer s H E hr =>
  (dss_cons (dst 3 zc_law_items0.nd (de_lst da_nil)) (dss_cons (ds_for xpo rfl (di_rng1 B.range (da_cons (de_add de_int (de_call O_law_pick (Room.mono hr (by decide)) xpx (dan_cons (dv 0) (dan_cons (dv 1) (dan_cons de_int dan_nil))))) da_nil)) (gn 4 zc_law_items0.nd) (dss_one (ds_if (DW.dt (dw_and (dt_cmp cm_lt (dv 2) de_int) (dw_and1 (dt_cmp (cm_eq hr.units) (de_call O_law_pick (Room.mono hr (by decide)) xpx (dan_cons (dv 0) (dan_cons (de_add (de_add (dv 1) de_int) (dv 4)) (dan_cons de_int dan_nil)))) de_int)))) (dss_cons (dst 5 zc_law_items0.nd (de_ix (hu_of hr) (de_lst (da_cons de_non (da_cons de_int (da_cons de_int (da_cons de_int da_nil))))) (de_call O_law_pick (Room.mono hr (by decide)) xpx (dan_cons (dv 0) (dan_cons (de_add (de_add (dv 1) de_int) (dv 4)) (dan_cons de_int dan_nil)))))) (dss_one (ds_append (i := 3) rfl (by first | exact .inl rfl | exact .inr (.inl rfl) | exact .inr (.inr rfl)) (de_tup (da_cons (dv 5) (da_cons (de_tuple B.tuple (da_cons de_no da_nil)) da_nil)))))) (dss_one (ds_append (i := 3) rfl (by first | exact .inl rfl | exact .inr (.inl rfl) | exact .inr (.inr rfl)) (de_ix (hu_of hr) (de_add (de_call0 O_law_always (Room.mono hr (by decide)) xpx) (de_lst (da_cons de_str da_nil))) (de_call O_law_pick (Room.mono hr (by decide)) xpx (dan_cons (dv 0) (dan_cons (de_add (de_add (dv 1) de_int) (dv 4)) (dan_cons de_int dan_nil)))))))))) (dss_one (dretV 3))))
abbrev n_law_items1 : List Str := ["_law_script", "_law_at_here", "_law_deep", "_law_made", "_law_k", "_law_times"]
theorem zc_law_items1 : FnScope n_law_items1 ["_law_script", "_law_at_here", "_law_deep"] (defScope s_law_items) := ⟨rfl, rfl, rfl, by decide +kernel, rfl, by decide +kernel, by decide +kernel⟩
noncomputable def m_law_items1 : Sv := (mSeq (mSet 3 (eLst aNil)) (mSeq (mFor (eWv rngD1 (aCons (eBin addD (eC (.int 1)) (eCall F_law_pick (aCons (eVar 0) (aCons (eVar 1) (aCons (eC (.int 3)) aNil))))) aNil)) (pName 4) (mIf (bAnd (bCmp ltD (eVar 2) (eC (.int 2))) (bCmp eqD (eCall F_law_pick (aCons (eVar 0) (aCons (eBin addD (eBin addD (eVar 1) (eC (.int 1))) (eVar 4)) (aCons (eC (.int 3)) aNil)))) (eC (.int 0)))) (mSeq (mSet 5 (eIx (eLst (aCons (eC .non) (aCons (eC (.int 1)) (aCons (eC (.int 2)) (aCons (eC (.int 3)) aNil))))) (eCall F_law_pick (aCons (eVar 0) (aCons (eBin addD (eBin addD (eVar 1) (eC (.int 5))) (eVar 4)) (aCons (eC (.int 4)) aNil)))))) (mAppend 3 (eTup (aCons (eVar 5) (aCons (eB tupleD (aCons (eCall F_law_items0 (aCons (eVar 0) (aCons (eBin addD (eBin addD (eBin addD (eVar 1) (eC (.int 20))) (eBin mulD (eC (.int 40)) (eVar 4))) (eBin mulD (eC (.int 13)) (eVar 2))) (aCons (eBin addD (eVar 2) (eC (.int 1))) aNil)))) aNil)) aNil))))) (mAppend 3 (eIx (eBin addD (eCall F_law_always aNil) (eLst (aCons (eC (.str "mine")) aNil))) (eCall F_law_pick (aCons (eVar 0) (aCons (eBin addD (eBin addD (eVar 1) (eC (.int 9))) (eVar 4)) (aCons (eC (.int 9)) aNil)))))))) (mRetV 3)))
noncomputable def F_law_items1 := runMo 6 m_law_items1
theorem fd_law_items1 {c : Ct} (D : Df c "_law_items" s_law_items) (B : BI c) (O_law_pick : FD c "_law_pick" 2 ["_law_script", "_law_k", "_law_many"] F_law_pick) (O_law_items0 : FD c "_law_items" 3 ["_law_script", "_law_at_here", "_law_deep"] F_law_items0) (O_law_always : FD c "_law_always" 2 [] F_law_always) : FD c "_law_items" 4 ["_law_script", "_law_at_here", "_law_deep"] F_law_items1 :=
  fd_ofN (m := m_law_items1) (N := n_law_items1) rfl D zc_law_items1 (by decide) (fun _ _ _ _ _ _ us hl => match us, hl with | [_, _, _], _ => rfl) fun f cd A outer s H E hr =>
  (dss_cons (dst 3 zc_law_items1.nd (de_lst da_nil)) (dss_cons (ds_for xpo rfl (di_rng1 B.range (da_cons (de_add de_int (de_call O_law_pick (Room.mono hr (by decide)) xpx (dan_cons (dv 0) (dan_cons (dv 1) (dan_cons de_int dan_nil))))) da_nil)) (gn 4 zc_law_items1.nd) (dss_one (ds_if (DW.dt (dw_and (dt_cmp cm_lt (dv 2) de_int) (dw_and1 (dt_cmp (cm_eq hr.units) (de_call O_law_pick (Room.mono hr (by decide)) xpx (dan_cons (dv 0) (dan_cons (de_add (de_add (dv 1) de_int) (dv 4)) (dan_cons de_int dan_nil)))) de_int)))) (dss_cons (dst 5 zc_law_items1.nd (de_ix (hu_of hr) (de_lst (da_cons de_non (da_cons de_int (da_cons de_int (da_cons de_int da_nil))))) (de_call O_law_pick (Room.mono hr (by decide)) xpx (dan_cons (dv 0) (dan_cons (de_add (de_add (dv 1) de_int) (dv 4)) (dan_cons de_int dan_nil)))))) (dss_one (ds_append (i := 3) rfl (by first | exact .inl rfl | exact .inr (.inl rfl) | exact .inr (.inr rfl)) (de_tup (da_cons (dv 5) (da_cons (de_tuple B.tuple (da_cons (de_call O_law_items0 (Room.mono hr (by decide)) xpx (dan_cons (dv 0) (dan_cons (de_add (de_add (de_add (dv 1) de_int) (de_mul de_int (dv 4))) (de_mul de_int (dv 2))) (dan_cons (de_add (dv 2) de_int) dan_nil)))) da_nil)) da_nil)))))) (dss_one (ds_append (i := 3) rfl (by first | exact .inl rfl | exact .inr (.inl rfl) | exact .inr (.inr rfl)) (de_ix (hu_of hr) (de_add (de_call0 O_law_always (Room.mono hr (by decide)) xpx) (de_lst (da_cons de_str da_nil))) (de_call O_law_pick (Room.mono hr (by decide)) xpx (dan_cons (dv 0) (dan_cons (de_add (de_add (dv 1) de_int) (dv 4)) (dan_cons de_int dan_nil)))))))))) (dss_one (dretV 3))))
abbrev n_law_items2 : List Str := ["_law_script", "_law_at_here", "_law_deep", "_law_made", "_law_k", "_law_times"]
theorem zc_law_items2 : FnScope n_law_items2 ["_law_script", "_law_at_here", "_law_deep"] (defScope s_law_items) := ⟨rfl, rfl, rfl, by decide +kernel, rfl, by decide +kernel, by decide +kernel⟩
noncomputable def m_law_items2 : Sv := (mSeq (mSet 3 (eLst aNil)) (mSeq (mFor (eWv rngD1 (aCons (eBin addD (eC (.int 1)) (eCall F_law_pick (aCons (eVar 0) (aCons (eVar 1) (aCons (eC (.int 3)) aNil))))) aNil)) (pName 4) (mIf (bAnd (bCmp ltD (eVar 2) (eC (.int 2))) (bCmp eqD (eCall F_law_pick (aCons (eVar 0) (aCons (eBin addD (eBin addD (eVar 1) (eC (.int 1))) (eVar 4)) (aCons (eC (.int 3)) aNil)))) (eC (.int 0)))) (mSeq (mSet 5 (eIx (eLst (aCons (eC .non) (aCons (eC (.int 1)) (aCons (eC (.int 2)) (aCons (eC (.int 3)) aNil))))) (eCall F_law_pick (aCons (eVar 0) (aCons (eBin addD (eBin addD (eVar 1) (eC (.int 5))) (eVar 4)) (aCons (eC (.int 4)) aNil)))))) (mAppend 3 (eTup (aCons (eVar 5) (aCons (eB tupleD (aCons (eCall F_law_items1 (aCons (eVar 0) (aCons (eBin addD (eBin addD (eBin addD (eVar 1) (eC (.int 20))) (eBin mulD (eC (.int 40)) (eVar 4))) (eBin mulD (eC (.int 13)) (eVar 2))) (aCons (eBin addD (eVar 2) (eC (.int 1))) aNil)))) aNil)) aNil))))) (mAppend 3 (eIx (eBin addD (eCall F_law_always aNil) (eLst (aCons (eC (.str "mine")) aNil))) (eCall F_law_pick (aCons (eVar 0) (aCons (eBin addD (eBin addD (eVar 1) (eC (.int 9))) (eVar 4)) (aCons (eC (.int 9)) aNil)))))))) (mRetV 3)))
noncomputable def F_law_items2 := runMo 6 m_law_items2
theorem fd_law_items2 {c : Ct} (D : Df c "_law_items" s_law_items) (B : BI c) (O_law_pick : FD c "_law_pick" 2 ["_law_script", "_law_k", "_law_many"] F_law_pick) (O_law_items1 : FD c "_law_items" 4 ["_law_script", "_law_at_here", "_law_deep"] F_law_items1) (O_law_always : FD c "_law_always" 2 [] F_law_always) : FD c "_law_items" 5 ["_law_script", "_law_at_here", "_law_deep"] F_law_items2 :=
  fd_ofN (m := m_law_items2) (N := n_law_items2) rfl D zc_law_items2 (by decide) (fun _ _ _ _ _ _ us hl => match us, hl with | [_, _, _], _ => rfl) fun f cd A outer s H E hr =>
  (dss_cons (dst 3 zc_law_items2.nd (de_lst da_nil)) (dss_cons (ds_for xpo rfl (di_rng1 B.range (da_cons (de_add de_int (de_call O_law_pick (Room.mono hr (by decide)) xpx (dan_cons (dv 0) (dan_cons (dv 1) (dan_cons de_int dan_nil))))) da_nil)) (gn 4 zc_law_items2.nd) (dss_one (ds_if (DW.dt (dw_and (dt_cmp cm_lt (dv 2) de_int) (dw_and1 (dt_cmp (cm_eq hr.units) (de_call O_law_pick (Room.mono hr (by decide)) xpx (dan_cons (dv 0) (dan_cons (de_add (de_add (dv 1) de_int) (dv 4)) (dan_cons de_int dan_nil)))) de_int)))) (dss_cons (dst 5 zc_law_items2.nd (de_ix (hu_of hr) (de_lst (da_cons de_non (da_cons de_int (da_cons de_int (da_cons de_int da_nil))))) (de_call O_law_pick (Room.mono hr (by decide)) xpx (dan_cons (dv 0) (dan_cons (de_add (de_add (dv 1) de_int) (dv 4)) (dan_cons de_int dan_nil)))))) (dss_one (ds_append (i := 3) rfl (by first | exact .inl rfl | exact .inr (.inl rfl) | exact .inr (.inr rfl)) (de_tup (da_cons (dv 5) (da_cons (de_tuple B.tuple (da_cons (de_call O_law_items1 (Room.mono hr (by decide)) xpx (dan_cons (dv 0) (dan_cons (de_add (de_add (de_add (dv 1) de_int) (de_mul de_int (dv 4))) (de_mul de_int (dv 2))) (dan_cons (de_add (dv 2) de_int) dan_nil)))) da_nil)) da_nil)))))) (dss_one (ds_append (i := 3) rfl (by first | exact .inl rfl | exact .inr (.inl rfl) | exact .inr (.inr rfl)) (de_ix (hu_of hr) (de_add (de_call0 O_law_always (Room.mono hr (by decide)) xpx) (de_lst (da_cons de_str da_nil))) (de_call O_law_pick (Room.mono hr (by decide)) xpx (dan_cons (dv 0) (dan_cons (de_add (de_add (dv 1) de_int) (dv 4)) (dan_cons de_int dan_nil)))))))))) (dss_one (dretV 3))))
abbrev n_law_line_of0 : List Str := ["_law_items_here", "_law_made", "_law_item"]
theorem zc_law_line_of0 : FnScope n_law_line_of0 ["_law_items_here"] (defScope s_law_line_of) := ⟨rfl, rfl, rfl, by decide +kernel, rfl, by decide +kernel, by decide +kernel⟩
noncomputable def m_law_line_of0 : Sv := (mSeq (mSet 1 (eLst aNil)) (mSeq (mFor (eIt (eVar 0)) (pName 2) (mIf (bTru (eIsi "str" (eVar 2))) (mAppend 1 (eVar 2)) (mAppend 1 (eBin addD (eBin addD (eBin addD (eC (.str "(")) eNo) (eC (.str ")"))) (eIf (bCmp isDt (eIx (eVar 2) (eC (.int 0))) (eC .non)) (eC (.str "+")) (eB strOD (aCons (eIx (eVar 2) (eC (.int 0))) aNil))))))) (mRet (eJoin (eC (.str " ")) (eVar 1)))))
noncomputable def F_law_line_of0 := runMo 3 m_law_line_of0
theorem fd_law_line_of0 {c : Ct} (D : Df c "_law_line_of" s_law_line_of) (B : BI c) (J : BJ c) : FD c "_law_line_of" 2 ["_law_items_here"] F_law_line_of0 :=
  fd_ofN (m := m_law_line_of0) (N := n_law_line_of0) rfl D zc_law_line_of0 (by decide) (fun _ _ _ _ _ _ us hl => match us, hl with | [_], _ => rfl) fun f cd A outer s H E hr =>
  (dss_cons (dst 1 zc_law_line_of0.nd (de_lst da_nil)) (dss_cons (ds_for xpo rfl (di_seq (dv 0)) (gn 2 zc_law_line_of0.nd) (dss_one (ds_if (dt_tru (de_isi (T := "str") J.isi J.str (by simp) (by decide +kernel) (dv 2))) (dss_one (ds_append (i := 1) rfl (by first | exact .inl rfl | exact .inr (.inl rfl) | exact .inr (.inr rfl)) (dv 2))) (dss_one (ds_append (i := 1) rfl (by first | exact .inl rfl | exact .inr (.inl rfl) | exact .inr (.inr rfl)) (de_add (de_add (de_add de_str de_no) de_str) (de_if (dt_cmp cm_is (de_ix (hu_of hr) (dv 2) de_int) de_non) de_str (de_strO J.str (da_cons (de_ix (hu_of hr) (dv 2) de_int) da_nil))))))))) (dss_one (ds_ret (de_join de_str (dv 1))))))
abbrev n_law_line_of1 : List Str := ["_law_items_here", "_law_made", "_law_item"]
theorem zc_law_line_of1 : FnScope n_law_line_of1 ["_law_items_here"] (defScope s_law_line_of) := ⟨rfl, rfl, rfl, by decide +kernel, rfl, by decide +kernel, by decide +kernel⟩
noncomputable def m_law_line_of1 : Sv := (mSeq (mSet 1 (eLst aNil)) (mSeq (mFor (eIt (eVar 0)) (pName 2) (mIf (bTru (eIsi "str" (eVar 2))) (mAppend 1 (eVar 2)) (mAppend 1 (eBin addD (eBin addD (eBin addD (eC (.str "(")) (eCall F_law_line_of0 (aCons (eIx (eVar 2) (eC (.int 1))) aNil))) (eC (.str ")"))) (eIf (bCmp isDt (eIx (eVar 2) (eC (.int 0))) (eC .non)) (eC (.str "+")) (eB strOD (aCons (eIx (eVar 2) (eC (.int 0))) aNil))))))) (mRet (eJoin (eC (.str " ")) (eVar 1)))))
noncomputable def F_law_line_of1 := runMo 3 m_law_line_of1
theorem fd_law_line_of1 {c : Ct} (D : Df c "_law_line_of" s_law_line_of) (B : BI c) (J : BJ c) (O_law_line_of0 : FD c "_law_line_of" 2 ["_law_items_here"] F_law_line_of0) : FD c "_law_line_of" 3 ["_law_items_here"] F_law_line_of1 :=
  fd_ofN (m := m_law_line_of1) (N := n_law_line_of1) rfl D zc_law_line_of1 (by decide) (fun _ _ _ _ _ _ us hl => match us, hl with | [_], _ => rfl) fun f cd A outer s H E hr =>
  (dss_cons (dst 1 zc_law_line_of1.nd (de_lst da_nil)) (dss_cons (ds_for xpo rfl (di_seq (dv 0)) (gn 2 zc_law_line_of1.nd) (dss_one (ds_if (dt_tru (de_isi (T := "str") J.isi J.str (by simp) (by decide +kernel) (dv 2))) (dss_one (ds_append (i := 1) rfl (by first | exact .inl rfl | exact .inr (.inl rfl) | exact .inr (.inr rfl)) (dv 2))) (dss_one (ds_append (i := 1) rfl (by first | exact .inl rfl | exact .inr (.inl rfl) | exact .inr (.inr rfl)) (de_add (de_add (de_add de_str (de_call O_law_line_of0 (Room.mono hr (by decide)) xpx (dan_cons (de_ix (hu_of hr) (dv 2) de_int) dan_nil))) de_str) (de_if (dt_cmp cm_is (de_ix (hu_of hr) (dv 2) de_int) de_non) de_str (de_strO J.str (da_cons (de_ix (hu_of hr) (dv 2) de_int) da_nil))))))))) (dss_one (ds_ret (de_join de_str (dv 1))))))
abbrev n_law_line_of2 : List Str := ["_law_items_here", "_law_made", "_law_item"]
theorem zc_law_line_of2 : FnScope n_law_line_of2 ["_law_items_here"] (defScope s_law_line_of) := ⟨rfl, rfl, rfl, by decide +kernel, rfl, by decide +kernel, by decide +kernel⟩
noncomputable def m_law_line_of2 : Sv := (mSeq (mSet 1 (eLst aNil)) (mSeq (mFor (eIt (eVar 0)) (pName 2) (mIf (bTru (eIsi "str" (eVar 2))) (mAppend 1 (eVar 2)) (mAppend 1 (eBin addD (eBin addD (eBin addD (eC (.str "(")) (eCall F_law_line_of1 (aCons (eIx (eVar 2) (eC (.int 1))) aNil))) (eC (.str ")"))) (eIf (bCmp isDt (eIx (eVar 2) (eC (.int 0))) (eC .non)) (eC (.str "+")) (eB strOD (aCons (eIx (eVar 2) (eC (.int 0))) aNil))))))) (mRet (eJoin (eC (.str " ")) (eVar 1)))))
noncomputable def F_law_line_of2 := runMo 3 m_law_line_of2
theorem fd_law_line_of2 {c : Ct} (D : Df c "_law_line_of" s_law_line_of) (B : BI c) (J : BJ c) (O_law_line_of1 : FD c "_law_line_of" 3 ["_law_items_here"] F_law_line_of1) : FD c "_law_line_of" 4 ["_law_items_here"] F_law_line_of2 :=
  fd_ofN (m := m_law_line_of2) (N := n_law_line_of2) rfl D zc_law_line_of2 (by decide) (fun _ _ _ _ _ _ us hl => match us, hl with | [_], _ => rfl) fun f cd A outer s H E hr =>
  (dss_cons (dst 1 zc_law_line_of2.nd (de_lst da_nil)) (dss_cons (ds_for xpo rfl (di_seq (dv 0)) (gn 2 zc_law_line_of2.nd) (dss_one (ds_if (dt_tru (de_isi (T := "str") J.isi J.str (by simp) (by decide +kernel) (dv 2))) (dss_one (ds_append (i := 1) rfl (by first | exact .inl rfl | exact .inr (.inl rfl) | exact .inr (.inr rfl)) (dv 2))) (dss_one (ds_append (i := 1) rfl (by first | exact .inl rfl | exact .inr (.inl rfl) | exact .inr (.inr rfl)) (de_add (de_add (de_add de_str (de_call O_law_line_of1 (Room.mono hr (by decide)) xpx (dan_cons (de_ix (hu_of hr) (dv 2) de_int) dan_nil))) de_str) (de_if (dt_cmp cm_is (de_ix (hu_of hr) (dv 2) de_int) de_non) de_str (de_strO J.str (da_cons (de_ix (hu_of hr) (dv 2) de_int) da_nil))))))))) (dss_one (ds_ret (de_join de_str (dv 1))))))
end Pm
set_option maxHeartbeats 4000000
namespace Pm
open PySem PySem.Spec PyProof.Rows L2 GxR GX
variable [LamTab]
abbrev n_law : List Str := ["_law_script", "_law_items_here", "_law_signs", "_law_text", "_law_k", "_law_at_here", "_law_sign", "_law_one", "_law_told", "_law_rows", "_law_thing", "_law_odd"]
theorem zc_law : FnScope n_law ["_law_script"] (defScope s_law) := ⟨rfl, rfl, rfl, by decide +kernel, rfl, by decide +kernel, by decide +kernel⟩
noncomputable def m_law : Sv := (mSeq (mPars [1, 2] (aConsK (eCall F_law_items2 (aCons (eVar 0) (aCons (eC (.int 0)) (aCons (eC (.int 0)) aNil)))) (aConsK (eC (.str "abz ()+190A-")) aNil))) (mSeq (mSet 3 (eCall F_law_line_of2 (aCons (eVar 1) aNil))) (mSeq (mFor (eWv rngD1 (aCons (eC (.int 6)) aNil)) (pName 4) (mSeq (mPars [5, 6] (aConsK (eCall F_law_pick (aCons (eVar 0) (aCons (eBin addD (eC (.int 200)) (eVar 4)) (aCons (eBin addD (eB lenD (aCons (eVar 3) aNil)) (eC (.int 1))) aNil)))) (aConsK (eIx (eVar 2) (eCall F_law_pick (aCons (eVar 0) (aCons (eBin addD (eC (.int 210)) (eVar 4)) (aCons (eC (.int 12)) aNil))))) aNil))) (mFor (eIt (eTup (aCons (eBin addD (eSl (eVar 3) oNone (oSome (eVar 5))) (eSl (eVar 3) (oSome (eBin addD (eVar 5) (eC (.int 1)))) oNone)) (aCons (eBin addD (eBin addD (eSl (eVar 3) oNone (oSome (eVar 5))) (eVar 6)) (eSl (eVar 3) (oSome (eVar 5)) oNone)) (aCons (eBin addD (eBin addD (eSl (eVar 3) oNone (oSome (eVar 5))) (eVar 6)) (eSl (eVar 3) (oSome (eBin addD (eVar 5) (eC (.int 1)))) oNone)) aNil))))) (pName 7) (mSeq (mSet 8 (eLawAt (eCall F_read_line (aCons (eVar 7) aNil)))) (mSeq (mIf (bAnd (bTru (eIsi "list" (eVar 8))) (bCmp neD (eCall F_line_text (aCons (eIx (eVar 8) (eC (.int 0))) aNil)) (eVar 7))) (mRet (eC (.bl false))) mNil) (mIf (bAnd (bNot (bTru (eIsi "list" (eVar 8)))) (bNot (bOf (eChain leD leD (eC (.int 0)) (eVar 8) (eB lenD (aCons (eVar 7) aNil)))))) (mRet (eC (.bl false))) mNil)))))) (mSeq (mSet 9 (eLst (aCons (eTup (aCons (eC (.str " a")) (aCons (eC (.int 0)) aNil))) (aCons (eTup (aCons (eC (.str "a ")) (aCons (eC (.int 1)) aNil))) (aCons (eTup (aCons (eC (.str "a  b")) (aCons (eC (.int 1)) aNil))) (aCons (eTup (aCons (eC (.str "abcdefg")) (aCons (eC (.int 0)) aNil))) (aCons (eTup (aCons (eC (.str "(a)")) (aCons (eC (.int 3)) aNil))) (aCons (eTup (aCons (eC (.str "(a)0")) (aCons (eC (.int 3)) aNil))) (aCons (eTup (aCons (eC (.str "()2")) (aCons (eC (.int 1)) aNil))) (aCons (eTup (aCons (eC (.str "a)")) (aCons (eC (.int 1)) aNil))) aNil)))))))))) (mSeq (mExtend 9 (eLst (aCons (eTup (aCons (eC (.str "a A")) (aCons (eC (.int 2)) aNil))) (aCons (eTup (aCons (eC (.str "(a")) (aCons (eC (.int 2)) aNil))) (aCons (eTup (aCons (eC (.str "(a )2")) (aCons (eC (.int 2)) aNil))) (aCons (eTup (aCons (eC (.str "((((a)2)2)2)2 b c(")) (aCons (eC (.int 17)) aNil))) (aCons (eTup (aCons (eC (.str "(((((a)2)2)2)2)2")) (aCons (eC (.int 4)) aNil))) aNil))))))) (mSeq (mExtend 9 (eLst (aCons (eTup (aCons (eC (.str "a b(c)2")) (aCons (eC (.int 3)) aNil))) (aCons (eTup (aCons (eC (.str "(a)2b")) (aCons (eC (.int 4)) aNil))) (aCons (eTup (aCons (eC (.str "(a)+ ")) (aCons (eC (.int 4)) aNil))) (aCons (eTup (aCons (eC (.str "1")) (aCons (eC (.int 0)) aNil))) (aCons (eTup (aCons (eC (.str "(")) (aCons (eC (.int 1)) aNil))) (aCons (eTup (aCons (eC (.str "(a)12")) (aCons (eC (.int 4)) aNil))) aNil)))))))) (mSeq (mAppend 9 (eTup (aCons (eC (.str "fold dead spreadspread")) (aCons (eC (.int 10)) aNil)))) (mSeq (mFrz 9 (mFor (eIt (eVar 9)) (pTup 2 (pCons (pName 7) (pCons (pName 5) pNil))) (mIf (bCmp neD (eLawAt (eCall F_read_line (aCons (eVar 7) aNil))) (eVar 5)) (mRet (eC (.bl false))) mNil))) (mSeq (mFor (eIt (eLst (aCons (eC .non) (aCons (eC (.bl true)) (aCons (eC (.int 3)) (aCons (eLst (aCons (eC (.str "a")) aNil)) (aCons (eTup aNil) aNil))))))) (pName 10) (mIf (bCmp neD (eLawAt (eCall F_read_line (aCons (eVar 10) aNil))) (eC (.int 0))) (mRet (eC (.bl false))) mNil)) (mSeq (mSet 11 (eLst (aCons (eC .non) (aCons (eC (.str "a")) (aCons (eC (.int 3)) (aCons (eTup (aCons (eC (.str "a")) aNil)) (aCons (eLst (aCons (eC (.int 3)) aNil)) (aCons (eLst (aCons (eC (.str "A")) aNil)) (aCons (eLst (aCons (eC (.str "abcdefg")) aNil)) (aCons (eLst (aCons (eTup (aCons (eC (.int 0)) (aCons (eTup (aCons (eC (.str "a")) aNil)) aNil))) aNil)) (aCons (eLst (aCons (eTup (aCons (eC (.int 10)) (aCons (eTup (aCons (eC (.str "a")) aNil)) aNil))) aNil)) (aCons (eLst (aCons (eTup (aCons (eC (.int 2)) (aCons (eTup aNil) aNil))) aNil)) (aCons (eLst (aCons (eTup (aCons (eC (.int 2)) (aCons (eC (.str "a")) aNil))) aNil)) aNil))))))))))))) (mSeq (mFor (eIt (eBin addD (eVar 11) (eLst (aCons (eLst (aCons (eTup (aCons (eC (.str "a")) aNil)) aNil)) aNil)))) (pName 10) (mIf (bCmp neD (eLawAt (eCall F_line_text (aCons (eVar 10) aNil))) (eC (.int 0))) (mRet (eC (.bl false))) mNil)) (mSeq (mIf (bCmp neD (eLawAt (eCall F_line_text (aCons (eLst (aCons (eTup (aCons (eC (.bl true)) (aCons (eTup (aCons (eC (.str "a")) aNil)) aNil))) aNil)) aNil))) (eC (.int 0))) (mRet (eC (.bl false))) mNil) (mRet (eCmp eqD (eCall F_read_line (aCons (eC (.str "((((a)2)3)+)4")) aNil)) (eLst (aCons (eTup (aCons (eC (.int 4)) (aCons (eTup (aCons (eTup (aCons (eC .non) (aCons (eTup (aCons (eTup (aCons (eC (.int 3)) (aCons (eTup (aCons (eTup (aCons (eC (.int 2)) (aCons (eTup (aCons (eC (.str "a")) aNil)) aNil))) aNil)) aNil))) aNil)) aNil))) aNil)) aNil))) aNil))))))))))))))))
theorem law_ok {c : Ct} {f : Addr} {fd : FuncData} {cd : Addr} (D : DefAt c "law" s_law [] f fd cd) (B : BI c) (O_law_items2 : FD c "_law_items" 5 ["_law_script", "_law_at_here", "_law_deep"] F_law_items2) (O_law_line_of2 : FD c "_law_line_of" 4 ["_law_items_here"] F_law_line_of2) (O_law_pick : FD c "_law_pick" 2 ["_law_script", "_law_k", "_law_many"] F_law_pick) (EA : ErrA c) (DT : Df c "_law_at" s_law_at) (HT : ∃ P, P ∈ c.ts) {PL : Addr} (TB : LamX.TabB c.base c.mg cd PL) (hLP : LamTab.tab PL = some ((envOfC "law" (defScope s_law) 0 0 (.ref 0)).qual ++ "<lambda>")) (O_read_line : FD c "read_line" 18 ["text"] F_read_line) (J : BJ c) (O_line_text : FD c "line_text" 19 ["items"] F_line_text) {sp : Sp}
    (hsp : ∀ vs H Q E, sp vs H Q E → ∃ (a : Addr) (ns : List Int), vs = [.ref a] ∧ SqL c.K H a (ns.map V.int) ∧ ns.length ≤ 63 ∧ Tabs c.ts H ∧ ∀ H', Q (.bl true) H')
    (hm : ∀ ns : List Int, ns.length ≤ 63 → runMo 12 m_law [.scr ns] = .ok (.sh, .bl true)) : FnOk c.P c.w c.K c.mg c.base CX0 22 f fd ["_law_script"] sp :=
  law_run (k := 21) D zc_law (by decide) hsp hm fun A outer s H hr =>
  (dss_cons (ds_par2 (i := 1) (j := 2) rfl zc_law.nd rfl rfl (by decide) rfl rfl (dp_cons (de_call O_law_items2 (Room.mono hr (by decide)) px_no (dan_cons (dv 0) (dan_cons de_int (dan_cons de_int dan_nil)))) (dp_cons de_str dp_nil))) (dss_cons (dst 3 zc_law.nd (de_call O_law_line_of2 (Room.mono hr (by decide)) px_no (dan_cons (dv 1) dan_nil))) (dss_cons (ds_for PassesOwn.never rfl (di_rng1 B.range (da_cons de_int da_nil)) (gn 4 zc_law.nd) (dss_cons (ds_par2 (i := 5) (j := 6) rfl zc_law.nd rfl rfl (by decide) rfl rfl (dp_cons (de_call O_law_pick (Room.mono hr (by decide)) px_no (dan_cons (dv 0) (dan_cons (de_add de_int (dv 4)) (dan_cons (de_add (de_len B.len (da_cons (dv 3) da_nil)) de_int) dan_nil)))) (dp_cons (de_ix (hu_of hr) (dv 2) (de_call O_law_pick (Room.mono hr (by decide)) px_no (dan_cons (dv 0) (dan_cons (de_add de_int (dv 4)) (dan_cons de_int dan_nil))))) dp_nil))) (dss_one (ds_for PassesOwn.never rfl (di_seq (de_tup (da_cons (de_add (de_sl (dv 3) do_none (do_some (dv 5))) (de_sl (dv 3) (do_some (de_add (dv 5) de_int)) do_none)) (da_cons (de_add (de_add (de_sl (dv 3) do_none (do_some (dv 5))) (dv 6)) (de_sl (dv 3) (do_some (dv 5)) do_none)) (da_cons (de_add (de_add (de_sl (dv 3) do_none (do_some (dv 5))) (dv 6)) (de_sl (dv 3) (do_some (de_add (dv 5) de_int)) do_none)) da_nil))))) (gn 7 zc_law.nd) (dss_cons (dst 8 zc_law.nd (de_at (k := 19) EA DT HT TB hLP (Room.mono hr (by decide)) fun A outer s H E f d hrl2 => (de_call O_read_line (Room.mono hrl2 (by decide)) xpxL (dan_cons (dv 7) dan_nil)))) (dss_cons (ds_if (DW.dt (dw_and (dt_tru (de_isi (T := "list") J.isi B.list (by simp) (by decide +kernel) (dv 8))) (dw_and1 (dt_cmp (cm_ne hr.units) (de_call O_line_text (Room.mono hr (by decide)) px_no (dan_cons (de_ix (hu_of hr) (dv 8) de_int) dan_nil)) (dv 7))))) (dss_one (ds_ret de_bl)) dss_nil) (dss_one (ds_if (DW.dt (dw_and (dt_not (dt_tru (de_isi (T := "list") J.isi B.list (by simp) (by decide +kernel) (dv 8)))) (dw_and1 (dt_not (dt_chain cm_le cm_le de_int (dv 8) (de_len B.len (da_cons (dv 7) da_nil))))))) (dss_one (ds_ret de_bl)) dss_nil)))))))) (dss_cons (dst 9 zc_law.nd (de_lst (da_cons (de_tup (da_cons de_str (da_cons de_int da_nil))) (da_cons (de_tup (da_cons de_str (da_cons de_int da_nil))) (da_cons (de_tup (da_cons de_str (da_cons de_int da_nil))) (da_cons (de_tup (da_cons de_str (da_cons de_int da_nil))) (da_cons (de_tup (da_cons de_str (da_cons de_int da_nil))) (da_cons (de_tup (da_cons de_str (da_cons de_int da_nil))) (da_cons (de_tup (da_cons de_str (da_cons de_int da_nil))) (da_cons (de_tup (da_cons de_str (da_cons de_int da_nil))) da_nil)))))))))) (dss_cons (ds_extend (i := 9) rfl (by first | exact .inl rfl | exact .inr (.inl rfl) | exact .inr (.inr rfl)) (de_lst (da_cons (de_tup (da_cons de_str (da_cons de_int da_nil))) (da_cons (de_tup (da_cons de_str (da_cons de_int da_nil))) (da_cons (de_tup (da_cons de_str (da_cons de_int da_nil))) (da_cons (de_tup (da_cons de_str (da_cons de_int da_nil))) (da_cons (de_tup (da_cons de_str (da_cons de_int da_nil))) da_nil))))))) (dss_cons (ds_extend (i := 9) rfl (by first | exact .inl rfl | exact .inr (.inl rfl) | exact .inr (.inr rfl)) (de_lst (da_cons (de_tup (da_cons de_str (da_cons de_int da_nil))) (da_cons (de_tup (da_cons de_str (da_cons de_int da_nil))) (da_cons (de_tup (da_cons de_str (da_cons de_int da_nil))) (da_cons (de_tup (da_cons de_str (da_cons de_int da_nil))) (da_cons (de_tup (da_cons de_str (da_cons de_int da_nil))) (da_cons (de_tup (da_cons de_str (da_cons de_int da_nil))) da_nil)))))))) (dss_cons (ds_append (i := 9) rfl (by first | exact .inl rfl | exact .inr (.inl rfl) | exact .inr (.inr rfl)) (de_tup (da_cons de_str (da_cons de_int da_nil)))) (dss_cons (ds_frz 9 (ds_for PassesOwn.never rfl (di_seq (dv 9)) (dg_tup rfl (dgs_cons (gn 7 zc_law.nd) (dgs_cons (gn 5 zc_law.nd) dgs_nil))) (dss_one (ds_if (dt_cmp (cm_ne hr.units) (de_at (k := 19) EA DT HT TB hLP (Room.mono hr (by decide)) fun A outer s H E f d hrl2 => (de_call O_read_line (Room.mono hrl2 (by decide)) xpxL (dan_cons (dv 7) dan_nil))) (dv 5)) (dss_one (ds_ret de_bl)) dss_nil)))) (dss_cons (ds_for PassesOwn.never rfl (di_seq (de_lst (da_cons de_non (da_cons de_bl (da_cons de_int (da_cons (de_lst (da_cons de_str da_nil)) (da_cons (de_tup da_nil) da_nil))))))) (gn 10 zc_law.nd) (dss_one (ds_if (dt_cmp (cm_ne hr.units) (de_at (k := 19) EA DT HT TB hLP (Room.mono hr (by decide)) fun A outer s H E f d hrl2 => (de_call O_read_line (Room.mono hrl2 (by decide)) xpxL (dan_cons (dv 10) dan_nil))) de_int) (dss_one (ds_ret de_bl)) dss_nil))) (dss_cons (dst 11 zc_law.nd (de_lst (da_cons de_non (da_cons de_str (da_cons de_int (da_cons (de_tup (da_cons de_str da_nil)) (da_cons (de_lst (da_cons de_int da_nil)) (da_cons (de_lst (da_cons de_str da_nil)) (da_cons (de_lst (da_cons de_str da_nil)) (da_cons (de_lst (da_cons (de_tup (da_cons de_int (da_cons (de_tup (da_cons de_str da_nil)) da_nil))) da_nil)) (da_cons (de_lst (da_cons (de_tup (da_cons de_int (da_cons (de_tup (da_cons de_str da_nil)) da_nil))) da_nil)) (da_cons (de_lst (da_cons (de_tup (da_cons de_int (da_cons (de_tup da_nil) da_nil))) da_nil)) (da_cons (de_lst (da_cons (de_tup (da_cons de_int (da_cons de_str da_nil))) da_nil)) da_nil))))))))))))) (dss_cons (ds_for PassesOwn.never rfl (di_seq (de_add (dv 11) (de_lst (da_cons (de_lst (da_cons (de_tup (da_cons de_str da_nil)) da_nil)) da_nil)))) (gn 10 zc_law.nd) (dss_one (ds_if (dt_cmp (cm_ne hr.units) (de_at (k := 19) EA DT HT TB hLP (Room.mono hr (by decide)) fun A outer s H E f d hrl2 => (de_call O_line_text (Room.mono hrl2 (by decide)) xpxL (dan_cons (dv 10) dan_nil))) de_int) (dss_one (ds_ret de_bl)) dss_nil))) (dss_cons (ds_if (dt_cmp (cm_ne hr.units) (de_at (k := 19) EA DT HT TB hLP (Room.mono hr (by decide)) fun A outer s H E f d hrl2 => (de_call O_line_text (Room.mono hrl2 (by decide)) xpxL (dan_cons (de_lst (da_cons (de_tup (da_cons de_bl (da_cons (de_tup (da_cons de_str da_nil)) da_nil))) da_nil)) dan_nil))) de_int) (dss_one (ds_ret de_bl)) dss_nil) (dss_one (ds_ret (de_cmp (cm_eq hr.units) (de_call O_read_line (Room.mono hr (by decide)) px_no (dan_cons de_str dan_nil)) (de_lst (da_cons (de_tup (da_cons de_int (da_cons (de_tup (da_cons (de_tup (da_cons de_non (da_cons (de_tup (da_cons (de_tup (da_cons de_int (da_cons (de_tup (da_cons (de_tup (da_cons de_int (da_cons (de_tup (da_cons de_str da_nil)) da_nil))) da_nil)) da_nil))) da_nil)) da_nil))) da_nil)) da_nil))) da_nil)))))))))))))))))
end Pm
set_option maxHeartbeats 4000000
namespace Pm.I
open PySem PySem.Spec PyProof.Rows L2 GxR GX TL
variable [LamTab]
section
variable {env e : Ev} {k : Str} {j : Option Int} {rv r x y : Rv} {b c : Bool} {m m' : Sv} {f g : Ev → Mo Rv} {p q : Ev → Mo Bool} {n : Nat} {ds : List Dt}
theorem mSeq_ok (h : m env = .ok (.nx e)) : mSeq m m' env = m' e := by unfold mSeq; rw [h]; rfl
theorem mSeq_rt (h : m env = .ok (.rt r e)) : mSeq m m' env = .ok (.rt r e) := by unfold mSeq; rw [h]; rfl
theorem mSeq_ex (h : m env = .ex k j) : mSeq m m' env = .ex k j := by unfold mSeq; rw [h]; rfl
theorem runMo_rt (h : m (startE n ds) = .ok (.rt r e)) : runMo n m ds = .ok r := by unfold runMo; rw [h]; rfl
theorem runMo_ex (h : m (startE n ds) = .ex k j) : runMo n m ds = .ex k j := by unfold runMo; rw [h]; rfl
theorem mRet_ok (h : f env = .ok rv) (ho : outRv rv = some r) : mRet f env = .ok (.rt r env) := by unfold mRet; rw [h, Mo.bind_ok, ho]; rfl
theorem mRet_ex (h : f env = .ex k j) : mRet f env = .ex k j := by unfold mRet; rw [h]; rfl
theorem mIf_t (h : p env = .ok true) : mIf p m m' env = m env := by unfold mIf; rw [h]; rfl
theorem mIf_f (h : p env = .ok false) : mIf p m m' env = m' env := by unfold mIf; rw [h]; rfl
theorem eBin_ok {o : Dt → Dt → Option Rv} (hf : f env = .ok x) (hg : g env = .ok y) (h : o x.2 y.2 = some rv) : eBin o f g env = .ok rv := by unfold eBin; rw [hf, Mo.bind_ok, hg, Mo.bind_ok, h]; rfl
theorem eCmp_ok {o : Dt → Dt → Option Bool} (hf : f env = .ok x) (hg : g env = .ok y) (h : o x.2 y.2 = some b) : eCmp o f g env = .ok (.sh, .bl b) := eBin_ok hf hg (by unfold cmpD; rw [h]; rfl)
theorem bCmp_ok {o : Dt → Dt → Option Bool} (hf : f env = .ok x) (hg : g env = .ok y) (h : o x.2 y.2 = some b) : bCmp o f g env = .ok b := by unfold bCmp; rw [hf, Mo.bind_ok, hg, Mo.bind_ok, h]; rfl
theorem eAnd_f {d : Kd} (h : f env = .ok (d, .bl false)) : eAnd f g env = .ok (.sh, .bl false) := by unfold eAnd; rw [h]; rfl
theorem eAnd_t {d : Kd} (h : f env = .ok (d, .bl true)) : eAnd f g env = g env := by unfold eAnd; rw [h]; rfl
theorem bAnd_f (h : p env = .ok false) : bAnd p q env = .ok false := by unfold bAnd; rw [h]; rfl
theorem bAnd_t (h : p env = .ok true) : bAnd p q env = q env := by unfold bAnd; rw [h]; rfl
theorem bOr_f (h : p env = .ok false) : bOr p q env = q env := by unfold bOr; rw [h]; rfl
theorem bNot_ok (h : p env = .ok b) : bNot p env = .ok (!b) := by unfold bNot; rw [h]; rfl
theorem bTru_bl {d : Kd} (h : f env = .ok (d, .bl b)) : bTru f env = .ok b := by unfold bTru; rw [h]; rfl
theorem bOf_bl {d : Kd} (h : f env = .ok (d, .bl b)) : bOf f env = .ok b := by unfold bOf; rw [h]; rfl
theorem eB_ok {o : List Dt → Option Rv} {fs : Ev → Mo (List Rv)} {rvs : List Rv} (h : fs env = .ok rvs) (ho : o (rvs.map (·.2)) = some rv) : eB o fs env = .ok rv := by unfold eB; rw [h, Mo.bind_ok, ho]; rfl
theorem eCall_ok {F : List Dt → Mo Rv} {fs : Ev → Mo (List Rv)} {rvs : List Rv} (h : fs env = .ok rvs) (hF : F (rvs.map (·.2)) = .ok rv) (hk : rvs.all keepK = true ∨ pureIn rv = true) : eCall F fs env = .ok rv := by
  unfold eCall callD
  rw [h, Mo.bind_ok, hF, Mo.bind_ok, if_pos hk]
theorem eCall_ex {F : List Dt → Mo Rv} {fs : Ev → Mo (List Rv)} {rvs : List Rv} (h : fs env = .ok rvs) (hF : F (rvs.map (·.2)) = .ex k j) : eCall F fs env = .ex k j := by
  unfold eCall callD
  rw [h, Mo.bind_ok, hF]
  rfl
theorem aCons_ok {fs : Ev → Mo (List Rv)} {xs : List Rv} (h : f env = .ok x) (hs : fs env = .ok xs) : aCons f fs env = .ok (x :: xs) := by unfold aCons; rw [h, Mo.bind_ok, hs]; rfl
theorem eTup_ok {fs : Ev → Mo (List Rv)} {xs : List Rv} (h : fs env = .ok xs) (ho : tupD xs = some rv) : eTup fs env = .ok rv := by unfold eTup; rw [h, Mo.bind_ok, ho]; rfl
theorem mPat_ok {pt : Dt → Ev → Option Ev} (h : f env = .ok rv) (hk : keepK rv = true) (hp : pt rv.2 env = some e) : mPat pt f env = .ok (.nx e) := by
  unfold mPat
  rw [h, Mo.bind_ok, if_pos hk, hp]
  rfl
theorem mPat_ex {pt : Dt → Ev → Option Ev} (h : f env = .ex k j) : mPat pt f env = .ex k j := by unfold mPat; rw [h]; rfl
theorem mSet_ok {i : Nat} (h : f env = .ok rv) (hb : bind1 i rv env = some e) : mSet i f env = .ok (.nx e) := by unfold mSet; rw [h, Mo.bind_ok, hb]; rfl
theorem mAppend_ok {i : Nat} {fl : Fl} {xs : List Dt} (hm : myL i env = some (fl, xs)) (h : f env = .ok rv) (hk : keepK rv = true) (hl : xs.length < 1000000) : mAppend i f env = .ok (.nx (env.set i (some (fl, .lst (xs ++ [rv.2]))))) := by
  unfold mAppend
  rw [hm]
  show ((f env).bind _) = _
  rw [h, Mo.bind_ok, if_pos ⟨hk, hl⟩]
theorem mRaiseI_ok {i : Int} {d : Kd} (h : f env = .ok (d, .int i)) (hf : Fits i) : mRaiseI k f env = .ex k (some i) := by
  unfold mRaiseI
  rw [h, Mo.bind_ok]
  exact if_pos hf
theorem wLoop_mono {p : Ev → Mo Bool} {m : Sv} : ∀ {n : Nat} {env : Ev} {w : Mo Fw} (k : Nat), w ≠ .no → wLoop p m n env = w → wLoop p m (n + k) env = w
  | 0, env, w, k, hw, e => absurd e.symm hw
  | n + 1, env, w, k, hw, e => by
    rw [show n + 1 + k = (n + k) + 1 by omega]
    rw [wLoop] at e ⊢
    cases hp : p env with
    | no => rw [hp] at e; exact e
    | ex => rw [hp] at e; exact e
    | ok b =>
      rw [hp] at e
      simp only [Mo.bind_ok] at e ⊢
      by_cases hb : b = true
      · rw [if_pos hb] at e ⊢
        cases hm : m env with
        | no => rw [hm] at e; exact e
        | ex => rw [hm] at e; exact e
        | ok f =>
          rw [hm] at e
          simp only [Mo.bind_ok] at e ⊢
          cases f with
          | nx e' => exact wLoop_mono k hw e
          | ct e' => exact wLoop_mono k hw e
          | bk e' => exact e
          | rt r e' => exact e
      · rw [if_neg hb] at e ⊢
        exact e
theorem mWhile_of {w : Mo Fw} (hn : n ≤ 1000000) (hw : w ≠ .no) (h : wLoop p m n env = w) : mWhile p m env = w := by
  have := wLoop_mono (fuelW - n) hw h
  unfold mWhile
  have e : n + (fuelW - n) = fuelW := by unfold fuelW; omega
  rw [e] at this
  exact this
theorem wLoop_end (h : p env = .ok false) : wLoop p m (n + 1) env = .ok (.nx env) := by rw [wLoop, h]; rfl
theorem wLoop_nx (h : p env = .ok true) (hm : m env = .ok (.nx e)) : wLoop p m (n + 1) env = wLoop p m n e := by
  rw [wLoop, h]
  show ((m env).bind _) = _
  rw [hm]
  rfl
theorem wLoop_ex (h : p env = .ok true) (hm : m env = .ex k j) : wLoop p m (n + 1) env = .ex k j := by
  rw [wLoop, h]
  show ((m env).bind _) = _
  rw [hm]
  rfl
end
abbrev st (l : List Nat) : Str := ⟨l.toArray⟩
/-- a text that can be read here -/
structure Txo (t : Str) : Prop where
  len : t.length ≤ 500
  sgn : ∀ c ∈ tl t, c < 123
theorem fits_small : ∀ a < 600, Fits ((a : Nat) : Int) := by decide +kernel
theorem cut_ab (t : Str) (a b : Nat) (h : a ≤ b) (hb : b ≤ t.length) : cutS t (some (a : Int)) (some (b : Int)) = st (((tl t).drop a).take (b - a)) := by
  apply ext_tl
  unfold cutS
  show (((tl t).drop _).take _) = _
  rw [HT.sIx_nat, HT.sIx_nat, tl_mk, Nat.min_eq_left hb, Nat.min_eq_left (Nat.le_trans h hb)]
theorem cut_one (t : Str) (a : Nat) : cutS t (some (a : Int)) (some ((a : Int) + 1)) = st (((tl t).drop a).take 1) := by
  apply ext_tl
  unfold cutS
  show (((tl t).drop _).take _) = _
  rw [show ((a : Int) + 1) = ((a + 1 : Nat) : Int) from rfl, HT.sIx_nat, HT.sIx_nat, tl_mk]
  have hl := len_tl t
  by_cases h : a < t.length
  · rw [Nat.min_eq_left (show a ≤ t.length by omega), Nat.min_eq_left (show a + 1 ≤ t.length by omega), show a + 1 - a = 1 by omega]
  · rw [List.drop_eq_nil_of_le (show (tl t).length ≤ min a t.length by omega), List.drop_eq_nil_of_le (show (tl t).length ≤ a by omega), List.take_nil, List.take_nil]
theorem sign_at_eq {t : Str} (ht : Txo t) (a : Nat) : F_sign_at [.str t, .int (a : Int)] = .ok (.sh, .str (st (((tl t).drop a).take 1))) := by
  refine runMo_rt (e := [some (.sh, .str t), some (.sh, .int a)]) ?_
  unfold m_sign_at
  refine mRet_ok (rv := (.sh, .str _)) ?_ rfl
  show Mo.of (slD (.str t) (some (a : Int)) (some ((a : Int) + 1))) = _
  have hl := ht.len
  unfold slD
  simp only
  rw [if_pos (by omega), cut_one]
  rfl
theorem sgn_call {t : Str} (ht : Txo t) (a : Nat) {env : Ev} {fs : Ev → Mo (List Rv)} (h : fs env = .ok [(.sh, .str t), (.sh, .int (a : Int))]) : (eCall F_sign_at fs) env = .ok (.sh, .str (st (((tl t).drop a).take 1))) := eCall_ok h (sign_at_eq ht a) (.inl rfl)
theorem eq_sp : ∀ c < 123, eqD (.str (st [c])) (.str " ") = some (decide (c = 32)) := by decide +kernel
theorem eq_op : ∀ c < 123, eqD (.str (st [c])) (.str "(") = some (decide (c = 40)) := by decide +kernel
theorem ne_cl : ∀ c < 123, neD (.str (st [c])) (.str ")") = some (decide (c ≠ 41)) := by decide +kernel
theorem notIn3 : ∀ c < 123, notInD (.str (st [c])) (.tup [.str " ", .str ")", .str ""]) = some (decide (c ≠ 32 ∧ c ≠ 41)) := by decide +kernel
theorem eq_sp0 : eqD (.str (st [])) (.str " ") = some false := by decide +kernel
theorem eq_op0 : eqD (.str (st [])) (.str "(") = some false := by decide +kernel
theorem ne_cl0 : neD (.str (st [])) (.str ")") = some true := by decide +kernel
theorem notIn30 : notInD (.str (st [])) (.tup [.str " ", .str ")", .str ""]) = some false := by decide +kernel
def letQ (c : Nat) : Bool := decide (97 ≤ c ∧ c ≤ 122)
theorem in_let : ∀ c < 123, inD (.str (st [c])) k_LETTERS = some (letQ c) := by decide +kernel
def leadsB : List Nat → Bool
  | 32 :: c :: _ => decide (c ≠ 32 ∧ c ≠ 41)
  | _ => false
theorem sg_drop {t : Str} (ht : Txo t) {a : Nat} : ∀ c ∈ (tl t).drop a, c < 123 := fun c hc => ht.sgn c (List.mem_of_mem_drop hc)
theorem drop1 (L : List Nat) (a : Nat) : L.drop (a + 1) = (L.drop a).drop 1 := by rw [List.drop_drop]
theorem leads_on_eq {t : Str} (ht : Txo t) (a : Nat) : F_leads_on [.str t, .int (a : Int)] = .ok (.sh, .bl (leadsB ((tl t).drop a))) := by
  refine runMo_rt (e := [some (.sh, .str t), some (.sh, .int a)]) ?_
  unfold m_leads_on
  refine mRet_ok (rv := (.sh, .bl _)) ?_ rfl
  show (eAnd _ _ [some (.sh, .str t), some (.sh, .int a)]) = _
  have e1 := sgn_call ht a (env := [some (.sh, .str t), some (.sh, .int a)]) (fs := aCons (eVar 0) (aCons (eVar 1) aNil)) rfl
  have e2 := sgn_call ht (a + 1) (env := [some (.sh, .str t), some (.sh, .int a)]) (fs := aCons (eVar 0) (aCons (eBin addD (eVar 1) (eC (.int 1))) aNil)) rfl
  rw [drop1] at e2
  have hs := sg_drop ht (a := a)
  generalize (tl t).drop a = l at e1 e2 hs ⊢
  match l, hs, e1, e2 with
  | [], hs, e1, e2 => exact eAnd_f (eCmp_ok e1 rfl eq_sp0)
  | c :: r, hs, e1, e2 =>
    have hc := hs c (.head _)
    have q1 := eCmp_ok (o := eqD) (g := eC (.str " ")) e1 rfl (eq_sp c hc)
    by_cases h : c = 32
    · subst h
      refine (eAnd_t q1).trans ?_
      match r, hs, e2 with
      | [], hs, e2 => exact eCmp_ok e2 rfl notIn30
      | d :: r, hs, e2 => exact eCmp_ok e2 rfl (notIn3 d (hs d (.tail _ (.head _))))
    · rw [decide_eq_false h] at q1
      refine (eAnd_f q1).trans ?_
      unfold leadsB
      split
      · rename_i e; cases e; exact absurd rfl h
      · rfl
def nmL (l : List Nat) : Nat := (l.takeWhile letQ).length
theorem name_loop {t : Str} (ht : Txo t) (a : Nat) : ∀ (n b : Nat), b ≤ t.length → t.length ≤ b + n →
    wLoop (bAnd (bCmp ltD (eVar 2) (eB lenD (aCons (eVar 0) aNil))) (bCmp inD (eIx (eVar 0) (eVar 2)) (eC k_LETTERS))) (mAug 2 (eC (.int 1))) (n + 1) [some (.sh, .str t), some (.sh, .int (a : Int)), some (.sh, .int (b : Int))] =
      .ok (.nx [some (.sh, .str t), some (.sh, .int (a : Int)), some (.sh, .int ((b + nmL ((tl t).drop b) : Nat) : Int))])
  | n, b, hb, hn => by
    have hl := len_tl t
    have h3 := ht.len
    have elen : (eB lenD (aCons (eVar 0) aNil)) [some (.sh, .str t), some (.sh, .int (a : Int)), some (.sh, .int (b : Int))] = .ok (.sh, .int t.length) := eB_ok (rvs := [(.sh, .str t)]) rfl (by simp [lenD]; omega)
    have q1 := bCmp_ok (o := ltD) (f := eVar 2) (x := (.sh, .int (b : Int))) rfl elen (show _ = some (decide ((b : Int) < t.length)) from rfl)
    by_cases h : b < t.length
    · obtain ⟨c, e⟩ := getElem_drop_cons (L := tl t) (a := b) (by omega)
      have hc := sg_drop ht (a := b) c (by rw [e]; exact .head _)
      have eix : (eIx (eVar 0) (eVar 2)) [some (.sh, .str t), some (.sh, .int (a : Int)), some (.sh, .int (b : Int))] = .ok (.sh, .str (st [c])) := by
        refine eBin_ok (x := (.sh, .str t)) (y := (.sh, .int (b : Int))) rfl rfl ?_
        show ixD (.str t) (.int (b : Int)) = _
        unfold ixD
        simp only
        rw [if_pos (by omega)]
        have : atI t.cps.toList (b : Int) = some c := by
          unfold atI ixN
          rw [if_pos (by omega), if_pos (by rw [← hl]; omega)]
          show (tl t)[((b : Int)).toNat]? = _
          rw [Int.toNat_natCast]
          have e2 := congrArg List.head? e
          rw [List.head?_drop] at e2
          exact e2
        rw [this]
        rfl
      have q2 := bCmp_ok (o := inD) (g := eC k_LETTERS) eix rfl (in_let c hc)
      rw [decide_eq_true (show (b : Int) < t.length by omega)] at q1
      have q3 := (bAnd_t (q := bCmp inD (eIx (eVar 0) (eVar 2)) (eC k_LETTERS)) q1).trans q2
      by_cases hq : letQ c = true
      · rw [hq] at q3
        cases n with
        | zero => exact absurd hn (by omega)
        | succ n =>
          rw [wLoop_nx (e := [some (.sh, .str t), some (.sh, .int (a : Int)), some (.sh, .int ((b + 1 : Nat) : Int))]) q3 rfl, name_loop ht a n (b + 1) (by omega) (by omega), e]
          have : nmL (c :: (tl t).drop (b + 1)) = nmL ((tl t).drop (b + 1)) + 1 := by
            unfold nmL
            rw [List.takeWhile_cons_of_pos hq, List.length_cons]
          rw [this, show b + 1 + nmL ((tl t).drop (b + 1)) = b + (nmL ((tl t).drop (b + 1)) + 1) by omega]
      · have hq2 : letQ c = false := by simpa using hq
        rw [hq2] at q3
        rw [wLoop_end q3, e]
        have : nmL (c :: (tl t).drop (b + 1)) = 0 := by
          unfold nmL
          rw [List.takeWhile_cons_of_neg (by rw [hq2]; decide), List.length_nil]
        rw [this, Nat.add_zero]
    · rw [decide_eq_false (show ¬ (b : Int) < t.length by omega)] at q1
      rw [wLoop_end (bAnd_f q1), List.drop_eq_nil_of_le (by omega)]
      rfl
theorem name_from_eq {t : Str} (ht : Txo t) {a : Nat} (ha : a ≤ t.length) : F_name_from [.str t, .int (a : Int)] =
    if 1 ≤ nmL ((tl t).drop a) ∧ nmL ((tl t).drop a) ≤ 6 then .ok (.sh, .tup [.str (st (((tl t).drop a).take (nmL ((tl t).drop a)))), .int ((a + nmL ((tl t).drop a) : Nat) : Int)]) else .ex "NoLine" (some (a : Int)) := by
  have h3 := ht.len
  have hl := len_tl t
  have hk : nmL ((tl t).drop a) ≤ t.length - a := by
    unfold nmL
    have := (List.takeWhile_sublist letQ (l := (tl t).drop a)).length_le
    rw [List.length_drop] at this
    omega
  have q := name_loop ht a (t.length - a) a ha (by omega)
  have q := mWhile_of (by omega) (by simp) q
  generalize nmL ((tl t).drop a) = k at q hk ⊢
  have s1 : m_name_from (startE 3 [.str t, .int (a : Int)]) = _ := (mSeq_ok (e := [some (.sh, .str t), some (.sh, .int (a : Int)), some (.sh, .int (a : Int))]) rfl).trans (mSeq_ok q)
  have c1 : ∀ b : Bool, b = (decide ((1 : Int) ≤ k) && decide ((k : Int) ≤ 6)) → (bNot (bOf (eChain leD leD (eC (.int 1)) (eBin subD (eVar 2) (eVar 1)) (eC k_LONGEST_PASS_NAME)))) [some (.sh, .str t), some (.sh, .int (a : Int)), some (.sh, .int ((a + k : Nat) : Int))] = .ok (!b) := fun b hb => by
    refine bNot_ok (bOf_bl (d := .sh) ?_)
    have e0 : (eBin subD (eVar 2) (eVar 1)) [some (.sh, .str t), some (.sh, .int (a : Int)), some (.sh, .int ((a + k : Nat) : Int))] = .ok (.sh, .int (k : Int)) := by
      refine (eBin_ok (x := (.sh, .int ((a + k : Nat) : Int))) (y := (.sh, .int (a : Int))) (rv := (.sh, .int (((a + k : Nat) : Int) - a))) rfl rfl rfl).trans ?_
      rw [show (((a + k : Nat) : Int) - a) = (k : Int) by omega]
    unfold eChain
    rw [show (eC (.int 1)) [some (.sh, .str t), some (.sh, .int (a : Int)), some (.sh, .int ((a + k : Nat) : Int))] = .ok (.sh, .int 1) from rfl, Mo.bind_ok, e0, Mo.bind_ok]
    show ((Mo.of (leD (.int 1) (.int (k : Int)))).bind _) = _
    rw [show leD (.int 1) (.int (k : Int)) = some (decide ((1 : Int) ≤ k)) from rfl]
    show (if decide ((1 : Int) ≤ k) = true then _ else _) = _
    subst hb
    by_cases h : (1 : Int) ≤ k
    · rw [if_pos (decide_eq_true h), decide_eq_true h]
      rfl
    · rw [if_neg (by rw [decide_eq_false h]; decide), decide_eq_false h]
      rfl
  by_cases h : 1 ≤ k ∧ k ≤ 6
  · rw [if_pos h]
    have c2 := c1 true (by rw [decide_eq_true (by omega), decide_eq_true (by omega)]; rfl)
    refine runMo_rt (e := [some (.sh, .str t), some (.sh, .int (a : Int)), some (.sh, .int ((a + k : Nat) : Int))]) (s1.trans ((mSeq_ok (e := [some (.sh, .str t), some (.sh, .int (a : Int)), some (.sh, .int ((a + k : Nat) : Int))]) ((mIf_f c2).trans rfl)).trans ?_))
    refine mRet_ok (rv := (.sh, .tup [.str _, .int _])) ?_ rfl
    have sl : (eSl (eVar 0) (oSome (eVar 1)) (oSome (eVar 2))) [some (.sh, .str t), some (.sh, .int (a : Int)), some (.sh, .int ((a + k : Nat) : Int))] = .ok (.sh, .str (st (((tl t).drop a).take k))) := by
      show Mo.of (slD (.str t) (some (a : Int)) (some ((a + k : Nat) : Int))) = _
      unfold slD
      simp only
      rw [if_pos (by omega), cut_ab t a (a + k) (by omega) (by omega), show a + k - a = k by omega]
      rfl
    exact eTup_ok (aCons_ok sl rfl) rfl
  · rw [if_neg h]
    have c2 := c1 false (by
      rcases Nat.lt_or_ge k 1 with h1 | h1
      · rw [decide_eq_false (by omega)]; rfl
      · rw [decide_eq_false (p := (k : Int) ≤ 6) (by omega), Bool.and_false])
    exact runMo_ex (s1.trans (mSeq_ex ((mIf_t c2).trans (mRaiseI_ok (d := .sh) rfl (fits_small a (by omega))))))
end Pm.I
set_option maxHeartbeats 4000000
namespace Pm.I
open PySem PySem.Spec PyProof.Rows L2 GxR GX TL
variable [LamTab]
noncomputable def mBr (f : Ev → Mo Rv) : Sv := (mSeq (mIf (bCmp eqD (eVar 2) (eC k_DEEPEST)) (mRaiseI "NoLine" (eVar 1)) mNil) (mSeq (mPat (pTup 2 (pCons (pName 3) (pCons (pName 1) pNil))) f) (mSeq (mIf (bCmp neD (eCall F_sign_at (aCons (eVar 0) (aCons (eVar 1) aNil))) (eC (.str ")"))) (mRaiseI "NoLine" (eVar 1)) mNil) (mSeq (mSet 4 (eCall F_sign_at (aCons (eVar 0) (aCons (eBin addD (eVar 1) (eC (.int 1))) aNil)))) (mSeq (mIf (tabIn true t_TIMES (eVar 4)) (mRaiseI "NoLine" (eBin addD (eVar 1) (eC (.int 1)))) mNil) (mRet (eTup (aCons (eTup (aCons (eTab t_TIMES (eVar 4)) (aCons (eB tupleD (aCons (eVar 3) aNil)) aNil))) (aCons (eBin addD (eVar 1) (eC (.int 2))) aNil)))))))))
def brT (o : Option Dt) (b : Nat) (ds : List Dt) : Mo Rv := match o with
  | some tm => .ok (.sh, .tup [.tup [tm, .tup ds], .int ((b + 2 : Nat) : Int)])
  | none => .ex "NoLine" (some ((b + 1 : Nat) : Int))
def brR (l : List Nat) (b : Nat) (ds : List Dt) : Mo Rv := match l with
  | 41 :: m :: _ => brT (t_TIMES.lookup (st [m])) b ds
  | [41] => .ex "NoLine" (some ((b + 1 : Nat) : Int))
  | _ => .ex "NoLine" (some (b : Int))
theorem look0 : t_TIMES.lookup (st []) = none := by decide +kernel
theorem brR_ne {l : List Nat} {b : Nat} {ds : List Dt} (h : ∀ r, l ≠ 41 :: r) : brR l b ds = .ex "NoLine" (some (b : Int)) := by
  unfold brR
  split
  · exact absurd rfl (h _)
  · exact absurd rfl (h _)
  · rfl
section
variable {t : Str} {a : Nat} {dep : Int} {f : Ev → Mo Rv}
theorem br_deep (ha : a < 600) : runMo 5 (mBr f) [.str t, .int (a : Int), .int 4] = .ex "NoLine" (some (a : Int)) :=
  runMo_ex (mSeq_ex ((mIf_t rfl).trans (mRaiseI_ok (d := .sh) rfl (fits_small a ha))))
theorem br_first (hd : dep ≠ 4) : (mIf (bCmp eqD (eVar 2) (eC k_DEEPEST)) (mRaiseI "NoLine" (eVar 1)) mNil) (startE 5 [.str t, .int (a : Int), .int dep]) = .ok (.nx (startE 5 [.str t, .int (a : Int), .int dep])) :=
  (mIf_f (bCmp_ok (x := (.sh, .int dep)) (y := (.sh, .int 4)) rfl rfl (show some (dep == 4) = _ by rw [beq_eq_false_iff_ne.mpr hd]))).trans rfl
theorem br_ex {k : Str} {j : Option Int} (hd : dep ≠ 4) (hf : f (startE 5 [.str t, .int (a : Int), .int dep]) = .ex k j) : runMo 5 (mBr f) [.str t, .int (a : Int), .int dep] = .ex k j :=
  runMo_ex ((mSeq_ok (br_first hd)).trans (mSeq_ex (mPat_ex hf)))
theorem br_ok (ht : Txo t) {b : Nat} {ds : List Dt} (hd : dep ≠ 4) (hb : b ≤ t.length) (hf : f (startE 5 [.str t, .int (a : Int), .int dep]) = .ok (.sh, .tup [.lst ds, .int (b : Int)])) :
    runMo 5 (mBr f) [.str t, .int (a : Int), .int dep] = brR ((tl t).drop b) b ds := by
  have h3 := ht.len
  have s1 : mBr f (startE 5 [.str t, .int (a : Int), .int dep]) = _ := (mSeq_ok (br_first hd)).trans (mSeq_ok (e := [some (.sh, .str t), some (.sh, .int (b : Int)), some (.sh, .int dep), some (.sh, .lst ds), none]) (mPat_ok hf rfl rfl))
  have e1 := sgn_call ht b (env := [some (.sh, .str t), some (.sh, .int (b : Int)), some (.sh, .int dep), some (.sh, .lst ds), none]) (fs := aCons (eVar 0) (aCons (eVar 1) aNil)) rfl
  have e2 := sgn_call ht (b + 1) (env := [some (.sh, .str t), some (.sh, .int (b : Int)), some (.sh, .int dep), some (.sh, .lst ds), none]) (fs := aCons (eVar 0) (aCons (eBin addD (eVar 1) (eC (.int 1))) aNil)) rfl
  rw [drop1] at e2
  have hs := sg_drop ht (a := b)
  generalize (tl t).drop b = l at e1 e2 hs ⊢
  have no1 : (bCmp neD (eCall F_sign_at (aCons (eVar 0) (aCons (eVar 1) aNil))) (eC (.str ")"))) [some (.sh, .str t), some (.sh, .int (b : Int)), some (.sh, .int dep), some (.sh, .lst ds), none] = .ok true → runMo 5 (mBr f) [.str t, .int (a : Int), .int dep] = .ex "NoLine" (some (b : Int)) := fun q =>
    runMo_ex (s1.trans (mSeq_ex ((mIf_t q).trans (mRaiseI_ok (d := .sh) rfl (fits_small b (by omega))))))
  match l, hs, e1, e2 with
  | [], hs, e1, e2 => exact no1 (bCmp_ok e1 rfl ne_cl0)
  | c :: r, hs, e1, e2 =>
    have hc := hs c (.head _)
    have q1 := bCmp_ok (o := neD) (g := eC (.str ")")) e1 rfl (ne_cl c hc)
    by_cases h : c = 41
    · subst h
      have s2 := s1.trans ((mSeq_ok ((mIf_f q1).trans rfl)).trans (mSeq_ok (mSet_ok e2 rfl)))
      match r, hs, e2, s2 with
      | [], hs, e2, s2 =>
        have q3 : (tabIn true t_TIMES (eVar 4)) [some (.sh, .str t), some (.sh, .int (b : Int)), some (.sh, .int dep), some (.sh, .lst ds), some (.sh, .str (st []))] = .ok true := by
          show Mo.ok (true != (t_TIMES.lookup (st [])).isSome) = _
          rw [look0]
          rfl
        exact runMo_ex (s2.trans (mSeq_ex ((mIf_t q3).trans (mRaiseI_ok (d := .sh) (i := ((b + 1 : Nat) : Int)) rfl (fits_small (b + 1) (by omega))))))
      | m :: r, hs, e2, s2 =>
        show _ = brT (t_TIMES.lookup (st [m])) b ds
        cases lk : t_TIMES.lookup (st [m]) with
        | none =>
          have q3 : (tabIn true t_TIMES (eVar 4)) [some (.sh, .str t), some (.sh, .int (b : Int)), some (.sh, .int dep), some (.sh, .lst ds), some (.sh, .str (st [m]))] = .ok true := by
            show Mo.ok (true != (t_TIMES.lookup (st [m])).isSome) = _
            rw [lk]
            rfl
          exact runMo_ex (s2.trans (mSeq_ex ((mIf_t q3).trans (mRaiseI_ok (d := .sh) (i := ((b + 1 : Nat) : Int)) rfl (fits_small (b + 1) (by omega))))))
        | some tm =>
          have q3 : (tabIn true t_TIMES (eVar 4)) [some (.sh, .str t), some (.sh, .int (b : Int)), some (.sh, .int dep), some (.sh, .lst ds), some (.sh, .str (st [m]))] = .ok false := by
            show Mo.ok (true != (t_TIMES.lookup (st [m])).isSome) = _
            rw [lk]
            rfl
          refine runMo_rt (s2.trans ((mSeq_ok ((mIf_f q3).trans rfl)).trans (mRet_ok (rv := (.sh, .tup [.tup [tm, .tup ds], .int ((b + 2 : Nat) : Int)])) ?_ rfl)))
          have e4 : (eTab t_TIMES (eVar 4)) [some (.sh, .str t), some (.sh, .int (b : Int)), some (.sh, .int dep), some (.sh, .lst ds), some (.sh, .str (st [m]))] = .ok (.sh, tm) := by
            show Mo.of ((t_TIMES.lookup (st [m])).map fun d => ((.sh, d) : Rv)) = _
            rw [lk]
            rfl
          exact eTup_ok (aCons_ok (eTup_ok (aCons_ok e4 (aCons_ok (x := (.sh, .tup ds)) rfl rfl)) rfl) rfl) rfl
    · rw [decide_eq_true (show c ≠ 41 from h)] at q1
      rw [no1 q1, brR_ne (fun r z => by cases z; exact h rfl)]
end
abbrev Pd := Dt → List Nat → Prop
def NmD (d : Dt) (w : List Nat) : Prop := 1 ≤ w.length ∧ w.length ≤ 6 ∧ (∀ c ∈ w, letQ c = true) ∧ d = .str (st w)
def TmD (tm : Dt) (m : Nat) : Prop := m < 123 ∧ t_TIMES.lookup (st [m]) = some tm
abbrev Pr := Dt × List Nat
def tlJ (l : List Pr) : List Nat := l.flatMap fun q => 32 :: q.2
def Its (P : Pd) (ds : List Dt) (w : List Nat) : Prop := ∃ (p : Pr) (l : List Pr), P p.1 p.2 ∧ (∀ q ∈ l, P q.1 q.2) ∧ ds = p.1 :: l.map (·.1) ∧ w = p.2 ++ tlJ l
def ItP : Nat → Pd
  | 0 => NmD
  | n + 1 => fun d w => NmD d w ∨ ∃ (tm : Dt) (m : Nat) (ds : List Dt) (v : List Nat), TmD tm m ∧ Its (ItP n) ds v ∧ d = .tup [tm, .tup ds] ∧ w = 40 :: (v ++ [41, m])
theorem ItP.name {n : Nat} {d : Dt} {w : List Nat} (h : NmD d w) : ItP n d w := by
  cases n with
  | zero => exact h
  | succ n => exact .inl h
theorem ItP.pos : ∀ {n : Nat} {d : Dt} {w : List Nat}, ItP n d w → 1 ≤ w.length
  | 0, _, _, h => h.1
  | n + 1, _, _, .inl h => h.1
  | n + 1, _, _, .inr ⟨_, _, _, _, _, _, _, e⟩ => by rw [e, List.length_cons]; omega
/-- what a part of the reader tells: something of which Q holds up to a place, or that the line does not fit -/
def Res (t : Str) (Q : Dt → Nat → Prop) (r : Mo Rv) : Prop := (∃ (d : Dt) (b : Nat), b ≤ t.length ∧ Q d b ∧ r = .ok (.sh, .tup [d, .int (b : Int)])) ∨ ∃ i : Nat, i ≤ t.length ∧ r = .ex "NoLine" (some (i : Int))
def At (t : Str) (P : Pd) (a : Nat) (d : Dt) (b : Nat) : Prop := ∃ w, P d w ∧ (tl t).drop a = w ++ (tl t).drop b
def AtL (t : Str) (P : Pd) (a : Nat) (d : Dt) (b : Nat) : Prop := ∃ w ds, Its P ds w ∧ d = .lst ds ∧ (tl t).drop a = w ++ (tl t).drop b
theorem take_nm (l : List Nat) : l.take (nmL l) = l.takeWhile letQ := by
  have e := List.takeWhile_append_dropWhile (p := letQ) (l := l)
  have t := List.take_left (l₁ := l.takeWhile letQ) (l₂ := l.dropWhile letQ)
  rw [e] at t
  exact t
theorem tw_all : ∀ (l : List Nat), ∀ c ∈ l.takeWhile letQ, letQ c = true
  | [], c, h => by cases h
  | d :: l, c, h => by
    by_cases q : letQ d = true
    · rw [List.takeWhile_cons_of_pos q] at h
      rcases List.mem_cons.mp h with rfl | h
      · exact q
      · exact tw_all l c h
    · rw [List.takeWhile_cons_of_neg q] at h
      cases h
theorem nm_le {t : Str} {a : Nat} (ha : a ≤ t.length) : a + nmL ((tl t).drop a) ≤ t.length := by
  have hl := len_tl t
  unfold nmL
  have := (List.takeWhile_sublist letQ (l := (tl t).drop a)).length_le
  rw [List.length_drop] at this
  omega
theorem name_res {t : Str} (ht : Txo t) {a : Nat} (ha : a ≤ t.length) : Res t (At t NmD a) (F_name_from [.str t, .int (a : Int)]) := by
  rw [name_from_eq ht ha]
  by_cases h : 1 ≤ nmL ((tl t).drop a) ∧ nmL ((tl t).drop a) ≤ 6
  · rw [if_pos h]
    refine .inl ⟨_, _, nm_le ha, ⟨((tl t).drop a).take (nmL ((tl t).drop a)), ⟨?_, ?_, ?_, rfl⟩, ?_⟩, rfl⟩
    · rw [take_nm]; exact h.1
    · rw [take_nm]; exact h.2
    · rw [take_nm]; exact tw_all _
    · rw [← List.drop_drop]
      exact (List.take_append_drop _ _).symm
  · rw [if_neg h]
    exact .inr ⟨a, ha, rfl⟩
theorem Res.mono {t : Str} {Q Q' : Dt → Nat → Prop} {r : Mo Rv} (h : Res t Q r) (q : ∀ d b, Q d b → Q' d b) : Res t Q' r := by
  rcases h with ⟨d, b, h1, h2, h3⟩ | h
  · exact .inl ⟨d, b, h1, q d b h2, h3⟩
  · exact .inr h
noncomputable def mIm (F : List Dt → Mo Rv) : Sv := (mSeq (mIf (bCmp eqD (eCall F_sign_at (aCons (eVar 0) (aCons (eVar 1) aNil))) (eC (.str "("))) (mRet (eCall F (aCons (eVar 0) (aCons (eVar 1) (aCons (eVar 2) aNil))))) mNil) (mRet (eCall F_name_from (aCons (eVar 0) (aCons (eVar 1) aNil)))))
theorem ret_res {t : Str} {Q : Dt → Nat → Prop} {F : List Dt → Mo Rv} {fs : Ev → Mo (List Rv)} {rvs : List Rv} {env : Ev} (h : fs env = .ok rvs) (hk : rvs.all keepK = true) (hr : Res t Q (F (rvs.map (·.2)))) :
    (∃ d, F (rvs.map (·.2)) = .ok (.sh, d) ∧ mRet (eCall F fs) env = .ok (.rt (.sh, d) env)) ∨ ∃ k j, F (rvs.map (·.2)) = .ex k j ∧ mRet (eCall F fs) env = .ex k j := by
  rcases hr with ⟨d, b, _, _, h3⟩ | ⟨i, _, h3⟩
  · exact .inl ⟨_, h3, mRet_ok (eCall_ok h h3 (.inl hk)) rfl⟩
  · exact .inr ⟨_, _, h3, mRet_ex (eCall_ex h h3)⟩
section
variable {t : Str} {F : List Dt → Mo Rv} {dep : Int} {a : Nat}
theorem im_br (ht : Txo t) {Q : Dt → Nat → Prop} {r : List Nat} (e : (tl t).drop a = 40 :: r) (hr : Res t Q (F [.str t, .int (a : Int), .int dep])) : runMo 3 (mIm F) [.str t, .int (a : Int), .int dep] = F [.str t, .int (a : Int), .int dep] := by
  have e1 := sgn_call ht a (env := [some (.sh, .str t), some (.sh, .int (a : Int)), some (.sh, .int dep)]) (fs := aCons (eVar 0) (aCons (eVar 1) aNil)) rfl
  rw [e] at e1
  have q1 := bCmp_ok (o := eqD) (g := eC (.str "(")) e1 rfl (eq_op 40 (by decide))
  have z := ret_res (fs := aCons (eVar 0) (aCons (eVar 1) (aCons (eVar 2) aNil))) (env := [some (.sh, .str t), some (.sh, .int (a : Int)), some (.sh, .int dep)]) (rvs := [(.sh, .str t), (.sh, .int (a : Int)), (.sh, .int dep)]) rfl rfl hr
  rcases z with ⟨d, z1, z2⟩ | ⟨k, j, z1, z2⟩
  · exact (runMo_rt (mSeq_rt ((mIf_t q1).trans z2))).trans z1.symm
  · exact (runMo_ex (mSeq_ex ((mIf_t q1).trans z2))).trans z1.symm
theorem im_nm (ht : Txo t) (ha : a ≤ t.length) (e : ∀ r, (tl t).drop a ≠ 40 :: r) : runMo 3 (mIm F) [.str t, .int (a : Int), .int dep] = F_name_from [.str t, .int (a : Int)] := by
  have e1 := sgn_call ht a (env := [some (.sh, .str t), some (.sh, .int (a : Int)), some (.sh, .int dep)]) (fs := aCons (eVar 0) (aCons (eVar 1) aNil)) rfl
  have q1 : (bCmp eqD (eCall F_sign_at (aCons (eVar 0) (aCons (eVar 1) aNil))) (eC (.str "("))) [some (.sh, .str t), some (.sh, .int (a : Int)), some (.sh, .int dep)] = .ok false := by
    have hs := sg_drop ht (a := a)
    generalize (tl t).drop a = l at e e1 hs
    cases l with
    | nil => exact bCmp_ok e1 rfl eq_op0
    | cons c r =>
      have q := bCmp_ok (o := eqD) (g := eC (.str "(")) e1 rfl (eq_op c (hs c (.head _)))
      rw [decide_eq_false (fun z => e r (by rw [z]))] at q
      exact q
  have z := ret_res (fs := aCons (eVar 0) (aCons (eVar 1) aNil)) (env := [some (.sh, .str t), some (.sh, .int (a : Int)), some (.sh, .int dep)]) (rvs := [(.sh, .str t), (.sh, .int (a : Int))]) rfl rfl (name_res ht ha)
  rcases z with ⟨d, z1, z2⟩ | ⟨k, j, z1, z2⟩
  · exact (runMo_rt ((mSeq_ok ((mIf_f q1).trans rfl)).trans z2)).trans z1.symm
  · exact (runMo_ex ((mSeq_ok ((mIf_f q1).trans rfl)).trans z2)).trans z1.symm
end
noncomputable abbrev mWl (F : List Dt → Mo Rv) : Sv := (mSeq (mPat (pTup 2 (pCons (pName 3) (pCons (pName 1) pNil))) (eCall F (aCons (eVar 0) (aCons (eBin addD (eVar 1) (eC (.int 1))) (aCons (eVar 2) aNil))))) (mAppend 4 (eVar 3)))
noncomputable abbrev pWl : Ev → Mo Bool := (bTru (eCall F_leads_on (aCons (eVar 0) (aCons (eVar 1) aNil))))
noncomputable def mIs (F : List Dt → Mo Rv) : Sv := (mSeq (mPat (pTup 2 (pCons (pName 3) (pCons (pName 1) pNil))) (eCall F (aCons (eVar 0) (aCons (eVar 1) (aCons (eVar 2) aNil))))) (mSeq (mSet 4 (eLst (aCons (eVar 3) aNil))) (mSeq (mWhile pWl (mWl F)) (mFrz 4 (mRet (eTup (aCons (eVar 4) (aCons (eVar 1) aNil))))))))
abbrev eI (t : Str) (b : Nat) (dep : Int) (it : Dt) (ds : List Dt) : Ev := [some (.sh, .str t), some (.sh, .int (b : Int)), some (.sh, .int dep), some (.sh, it), some (.ow, .lst ds)]
theorem leads_hd {l : List Nat} (h : leadsB l = true) : ∃ r, l = 32 :: r ∧ r ≠ [] := by
  unfold leadsB at h
  split at h
  · exact ⟨_, rfl, by simp⟩
  · cases h
theorem wl_p {t : Str} (ht : Txo t) (b : Nat) (dep : Int) (it : Dt) (ds : List Dt) : pWl (eI t b dep it ds) = .ok (leadsB ((tl t).drop b)) :=
  bTru_bl (d := .sh) (eCall_ok (rvs := [(.sh, .str t), (.sh, .int (b : Int))]) rfl (leads_on_eq ht b) (.inl rfl))
theorem its_loop {t : Str} {F : List Dt → Mo Rv} {dep : Int} {P : Pd} (ht : Txo t) (hF : ∀ a, a ≤ t.length → Res t (At t P a) (F [.str t, .int (a : Int), .int dep])) (hP : ∀ d w, P d w → 1 ≤ w.length) :
    ∀ (n b : Nat) (it : Dt) (ds : List Dt), b ≤ t.length → t.length ≤ b + n → ds.length ≤ b →
      (∃ (l : List Pr) (b' : Nat) (it' : Dt), wLoop pWl (mWl F) (n + 1) (eI t b dep it ds) = .ok (.nx (eI t b' dep it' (ds ++ l.map (·.1)))) ∧ b' ≤ t.length ∧ (∀ q ∈ l, P q.1 q.2) ∧ (tl t).drop b = tlJ l ++ (tl t).drop b')
      ∨ ∃ i : Nat, i ≤ t.length ∧ wLoop pWl (mWl F) (n + 1) (eI t b dep it ds) = .ex "NoLine" (some (i : Int))
  | n, b, it, ds, hb, hn, hd => by
    have hl := len_tl t
    have h3 := ht.len
    have p1 := wl_p ht b dep it ds
    by_cases h : leadsB ((tl t).drop b) = true
    · rw [h] at p1
      obtain ⟨r, e, hr⟩ := leads_hd h
      have hlt : b < t.length := by
        have := congrArg List.length e
        rw [List.length_drop, List.length_cons] at this
        omega
      have er : (tl t).drop (b + 1) = r := by rw [drop1, e]; rfl
      rcases hF (b + 1) (by omega) with ⟨d, b', hb', ⟨w, hw, ew⟩, z⟩ | ⟨i, hi, z⟩
      · have z2 : (eCall F (aCons (eVar 0) (aCons (eBin addD (eVar 1) (eC (.int 1))) (aCons (eVar 2) aNil)))) (eI t b dep it ds) = .ok (.sh, .tup [d, .int (b' : Int)]) := eCall_ok (rvs := [(.sh, .str t), (.sh, .int ((b + 1 : Nat) : Int)), (.sh, .int dep)]) rfl z (.inl rfl)
        have w1 := hP d w hw
        have lw : b' = b + 1 + w.length := by
          have := congrArg List.length ew
          rw [List.length_append, List.length_drop, List.length_drop] at this
          omega
        have m1 : mWl F (eI t b dep it ds) = .ok (.nx (eI t b' dep d (ds ++ [d]))) := by
          refine (mSeq_ok (e := eI t b' dep d ds) (mPat_ok z2 rfl rfl)).trans ?_
          exact mAppend_ok (fl := .ow) (xs := ds) (rv := (.sh, d)) rfl rfl rfl (by omega)
        cases n with
        | zero => exact absurd hn (by omega)
        | succ n =>
          rw [wLoop_nx p1 m1]
          rcases its_loop ht hF hP n b' d (ds ++ [d]) hb' (by omega) (by rw [List.length_append, List.length_singleton]; omega) with ⟨l, b2, it2, g1, g2, g3, g4⟩ | g
          · refine .inl ⟨(d, w) :: l, b2, it2, ?_, g2, fun q hq => ?_, ?_⟩
            · rw [g1, List.append_assoc]
              rfl
            · rcases List.mem_cons.mp hq with rfl | hq
              · exact hw
              · exact g3 q hq
            · rw [e, ← er, ew, g4]
              unfold tlJ
              rw [List.flatMap_cons]
              simp
          · exact .inr g
      · have z2 : (eCall F (aCons (eVar 0) (aCons (eBin addD (eVar 1) (eC (.int 1))) (aCons (eVar 2) aNil)))) (eI t b dep it ds) = .ex "NoLine" (some (i : Int)) := eCall_ex (rvs := [(.sh, .str t), (.sh, .int ((b + 1 : Nat) : Int)), (.sh, .int dep)]) rfl z
        exact .inr ⟨i, hi, wLoop_ex p1 (mSeq_ex (mPat_ex z2))⟩
    · have h2 : leadsB ((tl t).drop b) = false := by simpa using h
      rw [h2] at p1
      exact .inl ⟨[], b, it, (wLoop_end p1).trans (by simp), hb, fun q hq => (by cases hq), by simp [tlJ]⟩
theorem its_res {t : Str} {F : List Dt → Mo Rv} {dep : Int} {P : Pd} (ht : Txo t) (hF : ∀ a, a ≤ t.length → Res t (At t P a) (F [.str t, .int (a : Int), .int dep])) (hP : ∀ d w, P d w → 1 ≤ w.length) {a : Nat} (ha : a ≤ t.length) :
    Res t (AtL t P a) (runMo 5 (mIs F) [.str t, .int (a : Int), .int dep]) := by
  have hl := len_tl t
  have h3 := ht.len
  rcases hF a ha with ⟨d, b, hb, ⟨w, hw, ew⟩, z⟩ | ⟨i, hi, z⟩
  · have z2 : (eCall F (aCons (eVar 0) (aCons (eVar 1) (aCons (eVar 2) aNil)))) (startE 5 [.str t, .int (a : Int), .int dep]) = .ok (.sh, .tup [d, .int (b : Int)]) := eCall_ok (rvs := [(.sh, .str t), (.sh, .int (a : Int)), (.sh, .int dep)]) rfl z (.inl rfl)
    have w1 := hP d w hw
    have lw : b = a + w.length := by
      have := congrArg List.length ew
      rw [List.length_append, List.length_drop, List.length_drop] at this
      omega
    have s1 : mIs F (startE 5 [.str t, .int (a : Int), .int dep]) = _ := (mSeq_ok (e := [some (.sh, .str t), some (.sh, .int (b : Int)), some (.sh, .int dep), some (.sh, d), none]) (mPat_ok z2 rfl rfl)).trans (mSeq_ok (e := eI t b dep d [d]) rfl)
    rcases its_loop ht hF hP (t.length - b) b d [d] hb (by omega) (by rw [List.length_singleton]; omega) with ⟨l, b2, it2, g1, g2, g3, g4⟩ | ⟨i, hi, g⟩
    · have w2 := mWhile_of (by omega) (by simp) g1
      refine .inl ⟨.lst (d :: l.map (·.1)), b2, g2, ⟨w ++ tlJ l, _, ⟨(d, w), l, hw, g3, rfl, rfl⟩, rfl, ?_⟩, ?_⟩
      · rw [ew, g4, List.append_assoc]
      · exact runMo_rt (s1.trans ((mSeq_ok w2).trans rfl))
    · have w2 := mWhile_of (by omega) (by simp) g
      exact .inr ⟨i, hi, runMo_ex (s1.trans (mSeq_ex w2))⟩
  · have z2 : (eCall F (aCons (eVar 0) (aCons (eVar 1) (aCons (eVar 2) aNil)))) (startE 5 [.str t, .int (a : Int), .int dep]) = .ex "NoLine" (some (i : Int)) := eCall_ex (rvs := [(.sh, .str t), (.sh, .int (a : Int)), (.sh, .int dep)]) rfl z
    exact .inr ⟨i, hi, runMo_ex (mSeq_ex (mPat_ex z2))⟩
abbrev fBr (F : List Dt → Mo Rv) : Ev → Mo Rv := (eCall F (aCons (eVar 0) (aCons (eBin addD (eVar 1) (eC (.int 1))) (aCons (eBin addD (eVar 2) (eC (.int 1))) aNil))))
noncomputable def Bk : Nat → List Dt → Mo Rv
  | 0 => runMo 5 (mBr eNo)
  | n + 1 => runMo 5 (mBr (fBr (runMo 5 (mIs (runMo 3 (mIm (Bk n)))))))
noncomputable def Ik (n : Nat) : List Dt → Mo Rv := runMo 3 (mIm (Bk n))
noncomputable def Sk (n : Nat) : List Dt → Mo Rv := runMo 5 (mIs (Ik n))
theorem S4 : F_items_from4 = Sk 4 := rfl
theorem item_res {t : Str} (ht : Txo t) : ∀ (n : Nat) (dep : Int), dep + n = 4 → ∀ a, a ≤ t.length → Res t (At t (ItP n) a) (Ik n [.str t, .int (a : Int), .int dep]) := by
  have h3 := ht.len
  have hl := len_tl t
  have nm : ∀ (n : Nat) (dep : Int) (a : Nat), a ≤ t.length → (∀ r, (tl t).drop a ≠ 40 :: r) → Res t (At t (ItP n) a) (Ik n [.str t, .int (a : Int), .int dep]) := fun n dep a ha h => by
    unfold Ik
    rw [im_nm ht ha h]
    exact (name_res ht ha).mono fun d b ⟨w, hw, e⟩ => ⟨w, .name hw, e⟩
  intro n
  induction n with
  | zero =>
    intro dep hd a ha
    by_cases h : ∃ r, (tl t).drop a = 40 :: r
    · obtain ⟨r, e⟩ := h
      have q : Bk 0 [.str t, .int (a : Int), .int dep] = .ex "NoLine" (some (a : Int)) := by
        rw [show dep = 4 by omega]
        exact br_deep (by omega)
      have R : Res t (At t (ItP 0) a) (Bk 0 [.str t, .int (a : Int), .int dep]) := .inr ⟨a, ha, q⟩
      unfold Ik
      rw [im_br ht e R]
      exact R
    · exact nm 0 dep a ha fun r e => h ⟨r, e⟩
  | succ n ih =>
    intro dep hd a ha
    by_cases h : ∃ r, (tl t).drop a = 40 :: r
    · obtain ⟨r, e⟩ := h
      have hlt : a < t.length := by
        have := congrArg List.length e
        rw [List.length_drop, List.length_cons] at this
        omega
      have er : (tl t).drop (a + 1) = r := by rw [drop1, e]; rfl
      have R : Res t (At t (ItP (n + 1)) a) (Bk (n + 1) [.str t, .int (a : Int), .int dep]) := by
        have S := its_res (P := ItP n) ht (ih (dep + 1) (by omega)) (fun d w h => h.pos) (a := a + 1) (by omega)
        rcases S with ⟨d, b, hb, ⟨w, ds, hw, rfl, ew⟩, z⟩ | ⟨i, hi, z⟩
        · have z2 : (fBr (runMo 5 (mIs (runMo 3 (mIm (Bk n)))))) (startE 5 [.str t, .int (a : Int), .int dep]) = .ok (.sh, .tup [.lst ds, .int (b : Int)]) := eCall_ok (rvs := [(.sh, .str t), (.sh, .int ((a + 1 : Nat) : Int)), (.sh, .int (dep + 1))]) rfl z (.inl rfl)
          have q : Bk (n + 1) [.str t, .int (a : Int), .int dep] = _ := br_ok ht (by omega) hb z2
          rw [q]
          have hs := sg_drop ht (a := b)
          have e2 : ∀ k, (tl t).drop (b + k) = ((tl t).drop b).drop k := fun k => by rw [List.drop_drop]
          have lb : t.length - b = ((tl t).drop b).length := by rw [List.length_drop, hl]
          generalize hL : (tl t).drop b = l at ew hs e2 lb ⊢
          unfold brR
          split
          · rename_i m l'
            have hm := hs m (.tail _ (.head _))
            rw [List.length_cons, List.length_cons] at lb
            unfold brT
            split
            · rename_i tm lk
              refine .inl ⟨_, b + 2, by omega, ⟨40 :: (w ++ [41, m]), .inr ⟨tm, m, ds, w, ⟨hm, lk⟩, hw, rfl, rfl⟩, ?_⟩, rfl⟩
              rw [e, ← er, ew, e2 2]
              simp
            · exact .inr ⟨b + 1, by omega, rfl⟩
          · simp at lb
            exact .inr ⟨b + 1, by omega, rfl⟩
          · exact .inr ⟨b, hb, rfl⟩
        · have z2 : (fBr (runMo 5 (mIs (runMo 3 (mIm (Bk n)))))) (startE 5 [.str t, .int (a : Int), .int dep]) = .ex "NoLine" (some (i : Int)) := eCall_ex (rvs := [(.sh, .str t), (.sh, .int ((a + 1 : Nat) : Int)), (.sh, .int (dep + 1))]) rfl z
          exact .inr ⟨i, hi, br_ex (by omega) z2⟩
      unfold Ik
      rw [im_br ht e R]
      exact R
    · exact nm (n + 1) dep a ha fun r e => h ⟨r, e⟩
theorem read_res {t : Str} (ht : Txo t) : (∃ i : Nat, i ≤ t.length ∧ F_read_line [.str t] = .ex "NoLine" (some (i : Int))) ∨ ∃ (kd : Kd) (ds : List Dt), keepK (kd, .lst ds) = true ∧ F_read_line [.str t] = .ok (kd, .lst ds) ∧ (ds = [] ∧ t = "" ∨ Its (ItP 4) ds (tl t)) := by
  have h3 := ht.len
  have hl := len_tl t
  have s1 : m_read_line (startE 3 [.str t]) = _ := mSeq_ok (e := startE 3 [.str t]) ((mIf_f (bNot_ok (b := true) (bTru_bl (d := .sh) rfl))).trans rfl)
  have q1 : (bCmp eqD (eVar 0) (eC (.str ""))) (startE 3 [.str t]) = .ok (t == "") := bCmp_ok (x := (.sh, .str t)) (y := (.sh, .str "")) rfl rfl rfl
  by_cases h : t = ""
  · rw [h, show (("" : Str) == "") = true by decide +kernel] at q1
    refine .inr ⟨.nw, [], rfl, ?_, .inl ⟨rfl, h⟩⟩
    rw [h] at s1 ⊢
    exact runMo_rt (s1.trans (mSeq_rt ((mIf_t q1).trans rfl)))
  · rw [beq_eq_false_iff_ne.mpr h] at q1
    have s2 := s1.trans (mSeq_ok (e := startE 3 [.str t]) ((mIf_f q1).trans rfl))
    have S := its_res (P := ItP 4) ht (item_res ht 4 0 rfl) (fun d w h => h.pos) (a := 0) (by omega)
    rcases S with ⟨d, b, hb, ⟨w, ds, hw, rfl, ew⟩, z⟩ | ⟨i, hi, z⟩
    · have z2 : (eCall F_items_from4 (aCons (eVar 0) (aCons (eC (.int 0)) (aCons (eC (.int 0)) aNil)))) (startE 3 [.str t]) = .ok (.sh, .tup [.lst ds, .int (b : Int)]) := eCall_ok (rvs := [(.sh, .str t), (.sh, .int 0), (.sh, .int 0)]) rfl (by rw [S4]; exact z) (.inl rfl)
      have s3 := s2.trans (mSeq_ok (e := [some (.sh, .str t), some (.sh, .lst ds), some (.sh, .int (b : Int))]) (mPat_ok z2 rfl rfl))
      have q3 : (bCmp ltD (eVar 2) (eB lenD (aCons (eVar 0) aNil))) [some (.sh, .str t), some (.sh, .lst ds), some (.sh, .int (b : Int))] = .ok (decide ((b : Int) < t.length)) :=
        bCmp_ok (x := (.sh, .int (b : Int))) (y := (.sh, .int t.length)) rfl (eB_ok (rvs := [(.sh, .str t)]) rfl (by simp [lenD]; omega)) rfl
      by_cases hlt : b < t.length
      · rw [decide_eq_true (show (b : Int) < t.length by omega)] at q3
        exact .inl ⟨b, hb, runMo_ex (s3.trans (mSeq_ex ((mIf_t q3).trans (mRaiseI_ok (d := .sh) rfl (fits_small b (by omega))))))⟩
      · rw [decide_eq_false (show ¬ (b : Int) < t.length by omega)] at q3
        refine .inr ⟨.sh, ds, rfl, runMo_rt (s3.trans ((mSeq_ok ((mIf_f q3).trans rfl)).trans rfl)), .inr ?_⟩
        rw [List.drop_zero, List.drop_eq_nil_of_le (by omega), List.append_nil] at ew
        rw [ew]
        exact hw
    · have z2 : (eCall F_items_from4 (aCons (eVar 0) (aCons (eC (.int 0)) (aCons (eC (.int 0)) aNil)))) (startE 3 [.str t]) = .ex "NoLine" (some (i : Int)) := eCall_ex (rvs := [(.sh, .str t), (.sh, .int 0), (.sh, .int 0)]) rfl (by rw [S4]; exact z)
      exact .inl ⟨i, hi, runMo_ex (s2.trans (mSeq_ex (mPat_ex z2)))⟩
end Pm.I
set_option maxHeartbeats 4000000
namespace Pm.I
open PySem PySem.Spec PyProof.Rows L2 GxR GX TL
variable [LamTab]
theorem strs_map : ∀ xs : List Str, strsDt (xs.map Dt.str) = some xs
  | [] => rfl
  | x :: xs => by show (strsDt (xs.map Dt.str)).map _ = _; rw [strs_map xs]; rfl
theorem joinL_J : ∀ (p : List Nat) (l : List (List Nat)), joinL [32] (p :: l) = p ++ l.flatMap fun q => 32 :: q
  | p, [] => by simp [joinL]
  | p, q :: l => by
    show p ++ ([32] ++ joinL [32] (q :: l)) = _
    rw [joinL_J q l, List.flatMap_cons]
    rfl
theorem sum_J : ∀ l : List Pr, ((l.map fun q => st q.2).map (·.length)).sum + l.length = (tlJ l).length
  | [] => rfl
  | q :: l => by
    have := sum_J l
    have e : (st q.2).length = q.2.length := rfl
    rw [List.map_cons, List.map_cons, List.sum_cons, List.length_cons, show tlJ (q :: l) = (32 :: q.2) ++ tlJ l from rfl, List.length_append, List.length_cons, e]
    omega
theorem jn_eq (p : Pr) (l : List Pr) : Txt.join " " (st p.2 :: l.map fun q => st q.2) = st (p.2 ++ tlJ l) := by
  apply ext_tl
  have e : (Txt.join " " (st p.2 :: l.map fun q => st q.2)) = Str.join " " (st p.2 :: l.map fun q => st q.2) := StrLaws.glued_eq_join _ _
  rw [e, tl_join, show tl (" " : Str) = [32] by decide +kernel, List.map_cons, joinL_J, List.map_map, List.flatMap_map]
  rfl
theorem jn_ok (p : Pr) (l : List Pr) (h : (p.2 ++ tlJ l).length ≤ 500) : JoinOk " " (st p.2 :: l.map fun q => st q.2) = true := by
  have s := sum_J l
  rw [List.length_append] at h
  unfold JoinOk Builtin.Str.tooLong
  rw [StrLaws.joinTotal, List.map_cons, List.sum_cons, List.length_cons, List.length_map, show (" " : Str).length = 1 by decide +kernel]
  have e : (st p.2).length = p.2.length := rfl
  rw [e]
  rw [Bool.not_eq_true', decide_eq_false]
  unfold sizeLine
  omega
def mTx (f : Ev → Mo Rv) : Sv := (mSeq (mIf (bTru (eIsi "str" (eVar 0))) (mRetV 0) mNil) (mSeq (mPat (pTup 2 (pCons (pName 1) (pCons (pName 2) pNil))) (eVar 0)) (mSeq (mSet 3 (eIf (bCmp isDt (eVar 1) (eC .non)) (eC (.str "+")) (eB strOD (aCons (eVar 1) aNil)))) (mRet (eJs (jCons (eC (.str "(")) (jCons (eFmt f) (jCons (eC (.str ")")) (jCons (eFmt (eVar 3)) jNil)))))))))
abbrev clT : Cl := ⟨(eIt (eVar 0)), (pName 1), bYes, [1]⟩
def mTo (F : List Dt → Mo Rv) : Sv := (mRet (eJoinX (eC (.str " ")) (eCall F (aCons (eVar 1) aNil)) clT))
noncomputable def Xk : Nat → List Dt → Mo Rv
  | 0 => runMo 4 (mTx eNo)
  | n + 1 => runMo 4 (mTx (eCall (runMo 2 (mTo (Xk n))) (aCons (eVar 2) aNil)))
noncomputable def Tk (n : Nat) : List Dt → Mo Rv := runMo 2 (mTo (Xk n))
theorem T4 : F_text_of4 = Tk 4 := rfl
theorem to_fold {F : List Dt → Mo Rv} {x : Dt} : ∀ (l : List Pr) (acc : List Dt), acc.length + l.length ≤ 1000 → (∀ q ∈ l, F [q.1] = .ok (.sh, .str (st q.2))) →
    cFold (emL (eCall F (aCons (eVar 1) aNil))) clT [some (.sh, x), none] (l.map (·.1)) acc = .ok (acc ++ l.map fun q => Dt.str (st q.2))
  | [], acc, _, _ => by simp [cFold]
  | q :: l, acc, hl, h => by
    rw [List.length_cons] at hl
    have e : (eCall F (aCons (eVar 1) aNil)) [some (.sh, x), some (.sh, q.1)] = .ok (.sh, .str (st q.2)) := eCall_ok (rvs := [(.sh, q.1)]) rfl (h q (.head _)) (.inl rfl)
    have s : cStep (emL (eCall F (aCons (eVar 1) aNil))) clT [some (.sh, x), none] q.1 acc = .ok (acc ++ [.str (st q.2)]) := by
      show emL (eCall F (aCons (eVar 1) aNil)) [some (.sh, x), some (.sh, q.1)] acc = _
      unfold emL
      rw [e, Mo.bind_ok, if_pos ⟨rfl, by omega⟩]
    rw [List.map_cons]
    show ((cStep _ _ _ q.1 acc).bind _) = _
    rw [s, Mo.bind_ok, to_fold l _ (by rw [List.length_append, List.length_singleton]; omega) fun q hq => h q (.tail _ hq), List.append_assoc]
    rfl
theorem to_ok {F : List Dt → Mo Rv} {x : Dt} {p : Pr} {l : List Pr} (hx : itD (.sh, x) = some (.sh, p.1 :: l.map (·.1))) (hl : (p.2 ++ tlJ l).length ≤ 500) (h : ∀ q ∈ p :: l, F [q.1] = .ok (.sh, .str (st q.2))) :
    runMo 2 (mTo F) [x] = .ok (.sh, .str (st (p.2 ++ tlJ l))) := by
  have ll : l.length ≤ 500 := by
    have s := sum_J l
    rw [List.length_append] at hl
    omega
  refine runMo_rt (e := [some (.sh, x), none]) ?_
  unfold mTo
  refine mRet_ok (rv := (.sh, .str (st (p.2 ++ tlJ l)))) ?_ rfl
  show eJoinX _ _ _ [some (.sh, x), none] = _
  unfold eJoinX
  show (Mo.bind (Mo.of (itD (.sh, x))) _) = _
  have f := to_fold (F := F) (x := x) (p :: l) [] (by simp; omega) h
  rw [hx]
  show ((cFold _ _ _ ((p :: l).map (·.1)) []).noex.bind _) = _
  rw [f, List.nil_append]
  show (match strsDt ((p :: l).map fun q => Dt.str (st q.2)) with | some ws => _ | none => _) = _
  rw [show ((p :: l).map fun q => Dt.str (st q.2)) = ((p :: l).map fun q => st q.2).map Dt.str by rw [List.map_map]; rfl, strs_map, List.map_cons]
  show (if JoinOk " " _ = true then _ else _) = _
  rw [if_pos (jn_ok p l hl), jn_eq]
theorem tm_all : ∀ m < 123, (match t_TIMES.lookup (st [m]) with | some .non => m == 43 | some (.int i) => decide (1 ≤ i ∧ i ≤ 9 ∧ (m : Int) = 48 + i) | some _ => false | none => true) = true := by decide +kernel
theorem tm_cases {tm : Dt} {m : Nat} (h : TmD tm m) : tm = .non ∧ m = 43 ∨ ∃ i : Nat, i < 10 ∧ 1 ≤ i ∧ tm = .int i ∧ m = 48 + i := by
  have a := tm_all m h.1
  rw [h.2] at a
  split at a
  · rename_i e; cases e; exact .inl ⟨rfl, by simpa using a⟩
  · rename_i i e
    cases e
    have b := of_decide_eq_true a
    exact .inr ⟨i.toNat, by omega, by omega, by rw [Int.toNat_of_nonneg (by omega)], by omega⟩
  · cases a
  · rename_i e; cases e
theorem str_dig : ∀ i < 10, 1 ≤ i → strOD [.int ((i : Nat) : Int)] = some (.sh, .str (st [48 + i])) := by
  intro i h1 h2
  have e : i = 1 ∨ i = 2 ∨ i = 3 ∨ i = 4 ∨ i = 5 ∨ i = 6 ∨ i = 7 ∨ i = 8 ∨ i = 9 := by omega
  rcases e with rfl | rfl | rfl | rfl | rfl | rfl | rfl | rfl | rfl <;> kernel_rfl
theorem mark_ok {tm : Dt} {m : Nat} {x y : Dt} (h : TmD tm m) : (eIf (bCmp isDt (eVar 1) (eC .non)) (eC (.str "+")) (eB strOD (aCons (eVar 1) aNil))) [some (.sh, x), some (.sh, tm), some (.sh, y), none] = .ok (.sh, .str (st [m])) := by
  rcases tm_cases h with ⟨rfl, rfl⟩ | ⟨i, h1, h2, rfl, rfl⟩
  · show Mo.ok ((.sh, .str "+") : Rv) = _
    rw [show (("+" : Str)) = st [43] by decide +kernel]
  · show Mo.of (strOD [.int ((i : Nat) : Int)]) = _
    rw [str_dig i h1 h2]
    rfl
theorem jCons_ok {f : Ev → Mo Rv} {j : Ev → Str → Mo Str} {env : Ev} {acc y : Str} {k : Kd} (h : f env = .ok (k, .str y)) (hl : (acc ++ y).length ≤ 1000000) : jCons f j env acc = j env (acc ++ y) := by
  unfold jCons
  rw [h]
  show (if (acc ++ y).length ≤ sizeLine then _ else _) = _
  exact if_pos (small6 hl)
theorem eFmt_ok {f : Ev → Mo Rv} {env : Ev} {y : Str} {k : Kd} (h : f env = .ok (k, .str y)) (hl : y.length ≤ 1000000) : eFmt f env = .ok (.sh, .str y) := by
  unfold eFmt
  rw [h]
  show (if y.length ≤ sizeLine then _ else _) = _
  exact if_pos (small6 hl)
theorem tx_nm {f : Ev → Mo Rv} {w : List Nat} : runMo 4 (mTx f) [.str (st w)] = .ok (.sh, .str (st w)) :=
  runMo_rt (e := [some (.sh, .str (st w)), none, none, none]) (mSeq_rt ((mIf_t (bTru_bl (d := .sh) (b := true) (show Mo.ok ((Kd.sh, Dt.bl (isS "str" "str")) : Rv) = _ by rw [show isS "str" "str" = true by decide +kernel]))).trans rfl))
theorem tx_br {f : Ev → Mo Rv} {tm : Dt} {m : Nat} {ds : List Dt} {v : List Nat} (h : TmD tm m) (hv : v.length ≤ 500)
    (hf : f [some (.sh, .tup [tm, .tup ds]), some (.sh, tm), some (.sh, .tup ds), some (.sh, .str (st [m]))] = .ok (.sh, .str (st v))) : runMo 4 (mTx f) [.tup [tm, .tup ds]] = .ok (.sh, .str (st (40 :: (v ++ [41, m])))) := by
  have q1 : (bTru (eIsi "str" (eVar 0))) [some (.sh, .tup [tm, .tup ds]), none, none, none] = .ok false := bTru_bl (d := .sh) (b := false) (by
    show Mo.ok ((Kd.sh, Dt.bl (isS "tuple" "str")) : Rv) = _
    rw [show isS "tuple" "str" = false by decide +kernel])
  refine runMo_rt ((mSeq_ok ((mIf_f q1).trans rfl)).trans ((mSeq_ok (e := [some (.sh, .tup [tm, .tup ds]), some (.sh, tm), some (.sh, .tup ds), none]) rfl).trans ((mSeq_ok (mSet_ok (mark_ok h) rfl)).trans (mRet_ok (rv := (.sh, .str (st (40 :: (v ++ [41, m]))))) ?_ rfl))))
  show eJs _ [some (.sh, .tup [tm, .tup ds]), some (.sh, tm), some (.sh, .tup ds), some (.sh, .str (st [m]))] = _
  have l1 : ∀ l : List Nat, (st l).length = l.length := fun l => rfl
  have a1 : (Str.empty ++ ("(" : Str)) = st [40] := by decide +kernel
  have ap : ∀ l l' : List Nat, st l ++ st l' = st (l ++ l') := fun l l' => ext_tl (by rw [tl_append])
  have c1 : ∀ env : Ev, (eC (.str ")")) env = .ok (.sh, .str (st [41])) := fun env => by
    show Mo.ok ((.sh, .str ")") : Rv) = _
    rw [show ((")" : Str)) = st [41] by decide +kernel]
  have e1 : (eFmt f) [some (.sh, .tup [tm, .tup ds]), some (.sh, tm), some (.sh, .tup ds), some (.sh, .str (st [m]))] = .ok (.sh, .str (st v)) := by
    exact eFmt_ok hf (by rw [l1]; omega)
  have e2 : (eFmt (eVar 3)) [some (.sh, .tup [tm, .tup ds]), some (.sh, tm), some (.sh, .tup ds), some (.sh, .str (st [m]))] = .ok (.sh, .str (st [m])) := eFmt_ok (k := .sh) rfl (by rw [l1, List.length_singleton]; omega)
  unfold eJs
  rw [jCons_ok (k := .sh) (y := "(") rfl (by rw [a1, l1]; decide), a1, jCons_ok e1 (by rw [ap, l1, List.length_append, List.length_singleton]; omega), ap, show ([40] ++ v) = 40 :: v from rfl,
    jCons_ok (k := .sh) (y := st [41]) (c1 _) (by rw [ap, l1, List.length_append, List.length_singleton, List.length_cons]; omega), ap,
    jCons_ok e2 (by rw [ap, l1, List.length_append, List.length_append, List.length_singleton, List.length_cons, List.length_singleton]; omega), ap]
  show Mo.ok ((.sh, .str _) : Rv) = _
  rw [List.cons_append, List.cons_append, List.append_assoc]
  rfl
theorem Its.mem {P : Pd} {ds : List Dt} {w : List Nat} (h : Its P ds w) : ∃ (p : Pr) (l : List Pr), (∀ q ∈ p :: l, P q.1 q.2) ∧ ds = p.1 :: l.map (·.1) ∧ w = p.2 ++ tlJ l := by
  obtain ⟨p, l, h1, h2, h3, h4⟩ := h
  refine ⟨p, l, fun q hq => ?_, h3, h4⟩
  rcases List.mem_cons.mp hq with rfl | hq
  · exact h1
  · exact h2 q hq
theorem len_tlJ : ∀ {l : List Pr} {q : Pr}, q ∈ l → q.2.length ≤ (tlJ l).length
  | r :: l, q, hq => by
    rw [show tlJ (r :: l) = (32 :: r.2) ++ tlJ l from rfl, List.length_append, List.length_cons]
    rcases List.mem_cons.mp hq with rfl | hq
    · omega
    · have := len_tlJ hq; omega
theorem len_J {p : Pr} {l : List Pr} : ∀ q ∈ p :: l, q.2.length ≤ (p.2 ++ tlJ l).length := fun q hq => by
  rw [List.length_append]
  rcases List.mem_cons.mp hq with rfl | hq
  · omega
  · have := len_tlJ hq; omega
theorem item_text : ∀ (n : Nat) {d : Dt} {w : List Nat}, ItP n d w → w.length ≤ 500 → Xk n [d] = .ok (.sh, .str (st w))
  | 0, d, w, h, hw => by
    rw [h.2.2.2]
    exact tx_nm
  | n + 1, d, w, .inl h, hw => by
    rw [h.2.2.2]
    exact tx_nm
  | n + 1, d, w, .inr ⟨tm, m, ds, v, h1, h2, e1, e2⟩, hw => by
    obtain ⟨p, l, g, rfl, rfl⟩ := h2.mem
    subst e1 e2
    rw [List.length_cons, List.length_append] at hw
    have hl : (p.2 ++ tlJ l).length ≤ 500 := by omega
    exact tx_br h1 hl (eCall_ok (rvs := [(.sh, .tup (p.1 :: l.map (·.1)))]) rfl (to_ok (F := Xk n) rfl hl fun q hq => item_text n (g q hq) (Nat.le_trans (len_J q hq) hl)) (.inl rfl))
theorem text_of {n : Nat} {ds : List Dt} {w : List Nat} (h : Its (ItP n) ds w) (hw : w.length ≤ 500) : Tk n [.lst ds] = .ok (.sh, .str (st w)) := by
  obtain ⟨p, l, g, rfl, rfl⟩ := h.mem
  exact to_ok (F := Xk n) rfl hw fun q hq => item_text n (g q hq) (Nat.le_trans (len_J q hq) hw)
theorem aFold_t {f : Ev → Mo Rv} {cl : Cl} {env : Ev} : ∀ {ds : List Dt}, (∀ d ∈ ds, ∃ e1, cl.p d (wipeE env cl.vs) = some e1 ∧ cl.tt e1 = .ok true ∧ f e1 = .ok (.sh, .bl true)) → aFold false f cl env ds = .ok true
  | [], _ => rfl
  | d :: ds, h => by
    obtain ⟨e1, hp, ht, hf⟩ := h d (.head _)
    unfold aFold
    rw [hp]
    show ((cl.tt e1).bind _) = _
    rw [ht, Mo.bind_ok, if_pos rfl, hf, Mo.bind_ok]
    refine (if_neg (by decide)).trans ?_
    exact aFold_t fun d hd => h d (.tail _ hd)
theorem allG_t {f : Ev → Mo Rv} {cl : Cl} {env : Ev} {w : Wv} (hf : cl.fi env = .ok w) (h : aFold false f cl env w.2 = .ok true) : eAllG false f cl env = .ok (.sh, .bl true) := by
  unfold eAllG
  rw [hf, Mo.bind_ok, h]
  rfl
theorem name_ok {w : List Nat} (h1 : 1 ≤ w.length) (h6 : w.length ≤ 6) (hl : ∀ c ∈ w, letQ c = true) : F_is_pass_name [.str (st w)] = .ok (.sh, .bl true) := by
  have e0 : (st w).length = w.length := rfl
  have k1 : F_is_word [.str (st w), .int 6] = .ok (.sh, .bl true) := by
    have q0 : (bNot (bTru (eIsi "str" (eVar 0)))) [some (.sh, .str (st w)), some (.sh, .int 6), none] = .ok false := bNot_ok (b := true) (bTru_bl (d := .sh) (by
      show Mo.ok ((Kd.sh, Dt.bl (isS "str" "str")) : Rv) = _
      rw [show isS "str" "str" = true by decide +kernel]))
    have elen : (eB lenD (aCons (eVar 0) aNil)) [some (.sh, .str (st w)), some (.sh, .int 6), none] = .ok (.sh, .int w.length) := eB_ok (rvs := [(.sh, .str (st w))]) rfl (by simp [lenD, e0]; omega)
    have q1 : (bNot (bOf (eChain leD leD (eC (.int 1)) (eB lenD (aCons (eVar 0) aNil)) (eVar 1)))) [some (.sh, .str (st w)), some (.sh, .int 6), none] = .ok false := bNot_ok (b := true) (bOf_bl (d := .sh) (by
      unfold eChain
      rw [show (eC (.int 1)) [some (.sh, .str (st w)), some (.sh, .int 6), none] = .ok (.sh, .int 1) from rfl, Mo.bind_ok, elen, Mo.bind_ok]
      show ((Mo.of (some (decide ((1 : Int) ≤ w.length)))).bind _) = _
      rw [decide_eq_true (by omega)]
      show Mo.ok ((.sh, .bl (decide ((w.length : Int) ≤ 6))) : Rv) = _
      rw [decide_eq_true (by omega)]))
    refine runMo_rt ((mSeq_ok ((mIf_f ((bOr_f q0).trans q1)).trans rfl)).trans (mRet_ok (rv := (.sh, .bl true)) (allG_t (w := (.sh, signs (st w))) rfl (aFold_t fun d hd => ?_)) rfl))
    obtain ⟨c, hc, rfl⟩ := List.mem_map.mp hd
    have hq := hl c hc
    have hb : c < 123 := by unfold letQ at hq; have := of_decide_eq_true hq; omega
    refine ⟨[some (.sh, .str (st w)), some (.sh, .int 6), some (.sh, .str (st [c]))], rfl, rfl, ?_⟩
    have q2 := in_let c hb
    rw [hq] at q2
    exact eCmp_ok (x := (.sh, .str (st [c]))) (y := (.sh, k_LETTERS)) rfl rfl q2
  exact runMo_rt (e := [some (.sh, .str (st w))]) (mRet_ok (eCall_ok (rvs := [(.sh, .str (st w)), (.sh, .int 6)]) rfl k1 (.inl rfl)) rfl)
noncomputable def mIi (f : Ev → Mo Rv) : Sv := (mSeq (mIf (bNot (bTru (eIsi "tuple" (eVar 0)))) (mRet (eCall F_is_pass_name (aCons (eVar 0) aNil))) mNil) (mSeq (mIf (bOr (bCmp neD (eB lenD (aCons (eVar 0) aNil)) (eC (.int 2))) (bCmp eqD (eVar 1) (eC k_DEEPEST))) (mRet (eC (.bl false))) mNil) (mSeq (mPat (pTup 2 (pCons (pName 2) (pCons (pName 3) pNil))) (eVar 0)) (mSeq (mIf (bAnd (bCmp isNotD (eVar 2) (eC .non)) (bNot (bTru (eCall F_is_whole (aCons (eVar 2) (aCons (eC (.int 1)) (aCons (eC (.int 9)) aNil))))))) (mRet (eC (.bl false))) mNil) (mRet (eAnd (eIsi "tuple" (eVar 3)) (eAnd (eCmp gtD (eB lenD (aCons (eVar 3) aNil)) (eC (.int 0))) f)))))))
def mAi (F : List Dt → Mo Rv) : Sv := (mRet (eAllG false (eCall F (aCons (eVar 2) (aCons (eVar 1) aNil))) ⟨(eIt (eVar 0)), (pName 2), bYes, [2]⟩))
noncomputable def Jk : Nat → List Dt → Mo Rv
  | 0 => runMo 4 (mIi eNo)
  | n + 1 => runMo 4 (mIi (eCall (runMo 3 (mAi (Jk n))) (aCons (eVar 3) (aCons (eBin addD (eVar 1) (eC (.int 1))) aNil))))
noncomputable def Ak (n : Nat) : List Dt → Mo Rv := runMo 3 (mAi (Jk n))
theorem A4 : F_are_items4 = Ak 4 := rfl
theorem ai_ok {F : List Dt → Mo Rv} {x : Dt} {ds : List Dt} {dep : Int} (hx : itD (.sh, x) = some (.sh, ds)) (h : ∀ d ∈ ds, F [d, .int dep] = .ok (.sh, .bl true)) : runMo 3 (mAi F) [x, .int dep] = .ok (.sh, .bl true) := by
  refine runMo_rt (e := [some (.sh, x), some (.sh, .int dep), none]) (mRet_ok (rv := (.sh, .bl true)) (allG_t (w := (.sh, ds)) (by show Mo.of (itD (.sh, x)) = _; rw [hx]; rfl) (aFold_t fun d hd => ?_)) rfl)
  exact ⟨[some (.sh, x), some (.sh, .int dep), some (.sh, d)], rfl, rfl, eCall_ok (rvs := [(.sh, d), (.sh, .int dep)]) rfl (h d hd) (.inl rfl)⟩
theorem ii_nm {f : Ev → Mo Rv} {w : List Nat} {dep : Int} (h : NmD (.str (st w)) w) : runMo 4 (mIi f) [.str (st w), .int dep] = .ok (.sh, .bl true) := by
  have q0 : (bNot (bTru (eIsi "tuple" (eVar 0)))) [some (.sh, .str (st w)), some (.sh, .int dep), none, none] = .ok true := bNot_ok (b := false) (bTru_bl (d := .sh) (by
    show Mo.ok ((Kd.sh, Dt.bl (isS "str" "tuple")) : Rv) = _
    rw [show isS "str" "tuple" = false by decide +kernel]))
  exact runMo_rt (mSeq_rt ((mIf_t q0).trans (mRet_ok (eCall_ok (rvs := [(.sh, .str (st w))]) rfl (name_ok h.1 h.2.1 h.2.2.1) (.inl rfl)) rfl)))
theorem whole_ok : ∀ i < 10, 1 ≤ i → F_is_whole [.int ((i : Nat) : Int), .int 1, .int 9] = .ok (.sh, .bl true) := by
  intro i h1 h2
  have e : i = 1 ∨ i = 2 ∨ i = 3 ∨ i = 4 ∨ i = 5 ∨ i = 6 ∨ i = 7 ∨ i = 8 ∨ i = 9 := by omega
  rcases e with rfl | rfl | rfl | rfl | rfl | rfl | rfl | rfl | rfl <;> kernel_rfl
theorem ii_br {f : Ev → Mo Rv} {tm : Dt} {m : Nat} {ds : List Dt} {dep : Int} (h : TmD tm m) (hd : dep ≠ 4) (hn : ds ≠ [])
    (hf : f [some (.sh, .tup [tm, .tup ds]), some (.sh, .int dep), some (.sh, tm), some (.sh, .tup ds)] = .ok (.sh, .bl true)) : runMo 4 (mIi f) [.tup [tm, .tup ds], .int dep] = .ok (.sh, .bl true) := by
  have q0 : (bNot (bTru (eIsi "tuple" (eVar 0)))) [some (.sh, .tup [tm, .tup ds]), some (.sh, .int dep), none, none] = .ok false := bNot_ok (b := true) (bTru_bl (d := .sh) (by
    show Mo.ok ((Kd.sh, Dt.bl (isS "tuple" "tuple")) : Rv) = _
    rw [show isS "tuple" "tuple" = true by decide +kernel]))
  have q1 : (bOr (bCmp neD (eB lenD (aCons (eVar 0) aNil)) (eC (.int 2))) (bCmp eqD (eVar 1) (eC k_DEEPEST))) [some (.sh, .tup [tm, .tup ds]), some (.sh, .int dep), none, none] = .ok false := by
    refine (bOr_f rfl).trans (bCmp_ok (x := (.sh, .int dep)) (y := (.sh, .int 4)) rfl rfl ?_)
    show some (dep == 4) = _
    rw [beq_eq_false_iff_ne.mpr hd]
  have q2 : (bAnd (bCmp isNotD (eVar 2) (eC .non)) (bNot (bTru (eCall F_is_whole (aCons (eVar 2) (aCons (eC (.int 1)) (aCons (eC (.int 9)) aNil))))))) [some (.sh, .tup [tm, .tup ds]), some (.sh, .int dep), some (.sh, tm), some (.sh, .tup ds)] = .ok false := by
    rcases tm_cases h with ⟨rfl, rfl⟩ | ⟨i, h1, h2, rfl, rfl⟩
    · exact bAnd_f rfl
    · exact (bAnd_t rfl).trans (bNot_ok (b := true) (bTru_bl (d := .sh) (eCall_ok (rvs := [(.sh, .int ((i : Nat) : Int)), (.sh, .int 1), (.sh, .int 9)]) rfl (whole_ok i h1 h2) (.inl rfl))))
  have q3 : (eIsi "tuple" (eVar 3)) [some (.sh, .tup [tm, .tup ds]), some (.sh, .int dep), some (.sh, tm), some (.sh, .tup ds)] = .ok (.sh, .bl true) := by
    show Mo.ok ((Kd.sh, Dt.bl (isS "tuple" "tuple")) : Rv) = _
    rw [show isS "tuple" "tuple" = true by decide +kernel]
  have q4 : (eCmp gtD (eB lenD (aCons (eVar 3) aNil)) (eC (.int 0))) [some (.sh, .tup [tm, .tup ds]), some (.sh, .int dep), some (.sh, tm), some (.sh, .tup ds)] = .ok (.sh, .bl true) := by
    refine eCmp_ok (x := (.sh, .int ds.length)) (y := (.sh, .int 0)) rfl rfl ?_
    have : 0 < ds.length := List.length_pos_iff.mpr hn
    show some (decide ((0 : Int) < ds.length)) = _
    rw [decide_eq_true (by omega)]
  exact runMo_rt ((mSeq_ok ((mIf_f q0).trans rfl)).trans ((mSeq_ok ((mIf_f q1).trans rfl)).trans ((mSeq_ok (e := [some (.sh, .tup [tm, .tup ds]), some (.sh, .int dep), some (.sh, tm), some (.sh, .tup ds)]) rfl).trans ((mSeq_ok ((mIf_f q2).trans rfl)).trans (mRet_ok ((eAnd_t q3).trans ((eAnd_t q4).trans hf)) rfl)))))
theorem is_item : ∀ (n : Nat) {d : Dt} {w : List Nat} {dep : Int}, ItP n d w → dep + n = 4 → Jk n [d, .int dep] = .ok (.sh, .bl true)
  | 0, d, w, dep, h, hd => by
    have e := h.2.2.2
    subst e
    exact ii_nm h
  | n + 1, d, w, dep, .inl h, hd => by
    have e := h.2.2.2
    subst e
    exact ii_nm h
  | n + 1, d, w, dep, .inr ⟨tm, m, ds, v, h1, h2, e1, e2⟩, hd => by
    obtain ⟨p, l, g, rfl, rfl⟩ := h2.mem
    subst e1
    refine ii_br h1 (by omega) (by simp) (eCall_ok (rvs := [(.sh, .tup (p.1 :: l.map (·.1))), (.sh, .int (dep + 1))]) rfl (ai_ok (F := Jk n) rfl fun d hd2 => ?_) (.inl rfl))
    obtain ⟨q, hq, rfl⟩ : ∃ q ∈ p :: l, q.1 = d := List.mem_map.mp (show d ∈ (p :: l).map (·.1) from hd2)
    exact is_item n (g q hq) (by omega)
/-- a line written -/
theorem line_text_eq {ds : List Dt} {w : List Nat} (h : Its (ItP 4) ds w) (hw : w.length ≤ 500) : F_line_text [.lst ds] = .ok (.sh, .str (st w)) := by
  have hA : F_are_items4 [.lst ds, .int 0] = .ok (.sh, .bl true) := by
    obtain ⟨p, l, g, rfl, rfl⟩ := h.mem
    rw [A4]
    refine ai_ok (F := Jk 4) rfl fun d hd2 => ?_
    obtain ⟨q, hq, rfl⟩ : ∃ q ∈ p :: l, q.1 = d := List.mem_map.mp (show d ∈ (p :: l).map (·.1) from hd2)
    exact is_item 4 (g q hq) rfl
  have hT : F_text_of4 [.lst ds] = .ok (.sh, .str (st w)) := by rw [T4]; exact text_of h hw
  have q0 : (bNot (bTru (eIsi "list" (eVar 0)))) [some (.sh, .lst ds)] = .ok false := bNot_ok (b := true) (bTru_bl (d := .sh) (by
    show Mo.ok ((Kd.sh, Dt.bl (isS "list" "list")) : Rv) = _
    rw [show isS "list" "list" = true by decide +kernel]))
  have q1 : (bNot (bTru (eCall F_are_items4 (aCons (eVar 0) (aCons (eC (.int 0)) aNil))))) [some (.sh, .lst ds)] = .ok false := bNot_ok (b := true) (bTru_bl (d := .sh) (eCall_ok (rvs := [(.sh, .lst ds), (.sh, .int 0)]) rfl hA (.inl rfl)))
  exact runMo_rt ((mSeq_ok ((mIf_f ((bOr_f q0).trans q1)).trans rfl)).trans (mRet_ok (eCall_ok (rvs := [(.sh, .lst ds)]) rfl hT (.inl rfl)) rfl))
theorem line_nil : F_line_text [.lst []] = .ok (.sh, .str "") := by kernel_rfl
end Pm.I
set_option maxHeartbeats 4000000
open Pm in
local macro_rules
  | `(tactic| simp?! [$as,*]) => `(tactic| simp only [Mo.bind_ok, Mo.bind_no, Mo.bind_ex, Mo.of_some, Mo.of_none, mSeq, mIf, mSet, mPars, bindN, bind1, mRet, outRv, mRetV, mAppend, mExtend, myL, mNil, mPat, pName, pNil, pCons, pTup, mFrz, frz, eVar, eC, eBin, eIf, eIx, eB, eLst, eTup, aNil, aCons, aConsK, lstD, tupD, keepK, bCmp, bAnd, bOr, bNot, bTru, eCmp, cmpD, eqD, eqSc, neD, ordD, intD, addD, truD, lenD, tupleD, maxD, ixD, keyD, eWv, rngD1, eIt, itD, eCall, callD, pureIn, wipeE, bYes, endM, eSl, oNone, oSome, slD, eTab, List.getElem?_cons_zero, List.getElem?_cons_succ, List.set_cons_zero, List.set_cons_succ, List.map_cons, List.map_nil, List.all_cons, List.all_nil, List.length_cons, List.length_nil, Option.bind_some, Option.map_some, Option.bind_none, Bool.and_true, Bool.true_and, Bool.and_self, and_true, true_and, and_self, if_true, if_false, reduceIte, reduceCtorEq, Option.some.injEq, Mo.ok.injEq, Prod.mk.injEq, List.cons_append, List.nil_append, List.append_nil, Bool.false_eq_true, startE, List.replicate, Nat.reduceAdd, Nat.reduceSub, Nat.reduceLeDiff, Nat.reduceLT, Nat.reduceEqDiff, Nat.zero_lt_succ, Int.reducePow, Int.reduceNeg, Int.reduceLE, Int.reduceLT, Int.reduceToNat, decide_true, decide_false, Bool.not_true, Bool.not_false, $as,*])
open Pm in
local macro_rules
  | `(tactic| simp_all? [$as,*]) => `(tactic| simp only [Mo.bind_ok, Mo.bind_no, Mo.bind_ex, Mo.of_some, Mo.of_none, mSeq, mIf, mSet, mPars, bindN, bind1, mRet, outRv, mRetV, mAppend, mExtend, myL, mNil, mPat, pName, pNil, pCons, pTup, mFrz, frz, eVar, eC, eBin, eIf, eIx, eB, eLst, eTup, aNil, aCons, aConsK, lstD, tupD, keepK, bCmp, bAnd, bOr, bNot, bTru, eCmp, cmpD, eqD, eqSc, neD, ordD, addD, truD, lenD, tupleD, maxD, ixD, keyD, eWv, rngD1, eIt, itD, eCall, callD, pureIn, wipeE, bYes, endM, eSl, oNone, oSome, slD, eTab, List.getElem?_cons_zero, List.getElem?_cons_succ, List.set_cons_zero, List.set_cons_succ, List.map_cons, List.map_nil, List.all_cons, List.all_nil, List.length_cons, List.length_nil, Option.bind_some, Option.map_some, Option.bind_none, Bool.and_true, Bool.true_and, Bool.and_self, and_true, true_and, and_self, if_true, if_false, reduceIte, reduceCtorEq, Option.some.injEq, Mo.ok.injEq, Prod.mk.injEq, List.cons_append, List.nil_append, List.append_nil, Bool.false_eq_true, startE, List.replicate, Nat.reduceAdd, Nat.reduceSub, Nat.reduceLeDiff, Nat.reduceLT, Nat.reduceEqDiff, Nat.zero_lt_succ, Int.reducePow, Int.reduceNeg, Int.reduceLE, Int.reduceLT, Int.reduceToNat, decide_true, decide_false, Bool.not_true, Bool.not_false, $as,*])
namespace Pm
open PySem PySem.Spec PyProof.Rows L2 GxR GX
variable [LamTab]
theorem wLoop_mono {p : Ev → Mo Bool} {m : Sv} : ∀ {n : Nat} {env : Ev} {fw : Fw} (k : Nat), wLoop p m n env = .ok fw → wLoop p m (n + k) env = .ok fw
  | 0, env, fw, k, e => by simp [wLoop] at e
  | n + 1, env, fw, k, e => by
    have e0 : n + 1 + k = (n + k) + 1 := by omega
    rw [e0]
    simp only [wLoop] at e ⊢
    cases hp : p env with
    | no => rw [hp] at e; cases e
    | ex _ _ => rw [hp] at e; cases e
    | ok b =>
      rw [hp] at e
      simp only [Mo.bind_ok] at e ⊢
      cases b with
      | false => exact e
      | true =>
        simp only [if_true] at e ⊢
        cases hm : m env with
        | no => rw [hm] at e; cases e
        | ex _ _ => rw [hm] at e; cases e
        | ok f =>
          rw [hm] at e
          simp only [Mo.bind_ok] at e ⊢
          cases f with
          | nx e' => exact wLoop_mono k e
          | ct e' => exact wLoop_mono k e
          | bk e' => exact e
          | rt r e' => exact e
theorem mWhile_of {p : Ev → Mo Bool} {m : Sv} {n : Nat} {env : Ev} {fw : Fw} (hn : n ≤ 1000000) (h : wLoop p m n env = .ok fw) : mWhile p m env = .ok fw := by
  have := wLoop_mono (fuelW - n) h
  unfold mWhile
  have e : n + (fuelW - n) = fuelW := by unfold fuelW; omega
  rw [e] at this
  exact this
theorem pick_loop (ns : List Int) (k many cell : Int) : ∀ (n : Nat) (rest turn : Int), turn ≤ n → ∃ rest' turn' : Int,
    wLoop (bAnd (bCmp gtD (eVar 4) (eC (.int 0))) (bCmp gtD (eVar 5) (eC (.int 0)))) (mPars [4, 5] (aConsK (eBin fdivD (eVar 4) (eC (.int 840))) (aConsK (eBin subD (eVar 5) (eC (.int 1))) aNil))) (n + 1)
      [some (.sh, .scr ns), some (.sh, .int k), some (.sh, .int many), some (.sh, .int cell), some (.sh, .int rest), some (.sh, .int turn), none] =
      .ok (.nx [some (.sh, .scr ns), some (.sh, .int k), some (.sh, .int many), some (.sh, .int cell), some (.sh, .int rest'), some (.sh, .int turn'), none])
  | n, rest, turn, ht => by
    by_cases h1 : 0 < rest
    · by_cases h2 : 0 < turn
      · cases n with
        | zero => exact absurd ht (by simpa using h2)
        | succ n =>
          obtain ⟨r', t', g⟩ := pick_loop ns k many cell n (rest / 840) (turn - 1) (by push_cast at ht; omega)
          refine ⟨r', t', ?_⟩
          rw [wLoop]
          have d1 : (decide ((0 : Int) < 840 ∧ (840 : Int).natAbs.log2 < 9000)) = true := by decide +kernel
          simp?! [h1, h2, d1]
          exact g
      · refine ⟨rest, turn, ?_⟩
        rw [wLoop]
        simp?! [h1, h2]
    · refine ⟨rest, turn, ?_⟩
      rw [wLoop]
      simp?! [h1]
theorem atI_in {α : Type} {xs : List α} {i : Int} (h0 : 0 ≤ i) (h1 : i < xs.length) : ∃ x, atI xs i = some x ∧ x ∈ xs := by
  have hn : i.toNat < xs.length := by omega
  refine ⟨xs[i.toNat], ?_, List.getElem_mem hn⟩
  unfold atI ixN
  rw [if_pos h0, if_pos h1]
  simp [hn]
theorem mSeq_ok {m m' : Sv} {env e : Ev} (h : m env = .ok (.nx e)) : mSeq m m' env = m' e := by unfold mSeq; rw [h]; rfl
theorem mSeq_rt {m m' : Sv} {env e : Ev} {r : Rv} (h : m env = .ok (.rt r e)) : mSeq m m' env = .ok (.rt r e) := by unfold mSeq; rw [h]; rfl
theorem mSet_ok {i : Nat} {f : Ev → Mo Rv} {env : Ev} {rv : Rv} {e : Ev} (h : f env = .ok rv) (hb : bind1 i rv env = some e) : mSet i f env = .ok (.nx e) := by unfold mSet; rw [h]; simp [hb]
theorem runMo_rt {n : Nat} {m : Sv} {ds : List Dt} {r : Rv} {e : Ev} (h : m (startE n ds) = .ok (.rt r e)) : runMo n m ds = .ok r := by unfold runMo; rw [h]; rfl
theorem fdiv_ok {i j : Int} (h : 0 < j) (hl : j ≤ 1000000000000000000) : fdivD (.int i) (.int j) = some (.sh, .int (i / j)) := by
  have h1 : j.natAbs.log2 < 9000 := by
    have h2 : j.natAbs < 2 ^ 9000 := Nat.lt_of_le_of_lt (show j.natAbs ≤ 1000000000000000000 by omega) (by decide +kernel)
    by_cases z : j.natAbs = 0
    · omega
    · exact (Nat.log2_lt z).mpr h2
  simp only [fdivD, intD, decide_eq_true (And.intro h h1), if_true]
theorem mod_ok {i j : Int} (h : 0 < j) : modD (.int i) (.int j) = some (.sh, .int (i % j)) := by
  simp only [modD, intD, decide_eq_true h, if_true]
theorem mul_okl {i j : Int} (h0 : -18446744073709551616 < i) (h1 : i < 18446744073709551616) : mulD (.int i) (.int j) = some (.sh, .int (i * j)) := by
  have : okMul i j = true := decide_eq_true (.inl ⟨by simpa using h0, by simpa using h1⟩)
  simp only [mulD, intD, this, if_true]
theorem mul_okr {i j : Int} (h0 : -18446744073709551616 < j) (h1 : j < 18446744073709551616) : mulD (.int i) (.int j) = some (.sh, .int (i * j)) := by
  have : okMul i j = true := decide_eq_true (.inr ⟨by simpa using h0, by simpa using h1⟩)
  simp only [mulD, intD, this, if_true]
theorem pow18 : powD (.int 10) (.int 18) = some (.sh, .int 1000000000000000000) := by
  have : (decide ((0 : Int) ≤ 18 ∧ (18 : Int) ≤ 1000000 ∧ (10 : Int).natAbs < 2 ^ 64)) = true := by decide +kernel
  have e : (10 : Int) ^ (18 : Int).toNat = 1000000000000000000 := by decide +kernel
  simp only [powD, intD, this, e, if_true]
/-- _law_pick: some number below many -/
theorem F_pick (ns : List Int) (hl : ns.length ≤ 63) (k many : Int) (h0 : 0 ≤ k) (hk : k ≤ 900000) (hm : 0 < many) : ∃ r : Int, 0 ≤ r ∧ r < many ∧ F_law_pick [.scr ns, .int k, .int many] = .ok (.sh, .int r) := by
  have hs := shaped_ints ns
  have cell : ∃ cl : Int, (eIf (bCmp neD (eVar 0) (eLst aNil)) (eIx (eVar 0) (eBin modD (eVar 1) (eB lenD (aCons (eVar 0) aNil)))) (eC (.int 0))) (startE 7 [.scr ns, .int k, .int many]) = .ok (.sh, .int cl) := by
    have z : eqDp (.scr ns) (.lst []) = some (PyData.eqv (.list (ns.map PyData.int)) (.list [])) := by
      unfold eqDp
      simp only [Dt.py, pyAll, Option.map_some, hs.1]
      rfl
    cases ns with
    | nil =>
      refine ⟨0, ?_⟩
      simp?! [z]
      rfl
    | cons n ns =>
      have hl : (0 : Int) < ((n :: ns).length : Nat) := by simp
      have i0 : 0 ≤ k % ((n :: ns).length : Nat) := Int.emod_nonneg _ (by omega)
      have i1 : k % ((n :: ns).length : Nat) < ((n :: ns).length : Nat) := Int.emod_lt_of_pos _ hl
      obtain ⟨x, hx, _⟩ := atI_in (xs := n :: ns) i0 i1
      refine ⟨x, ?_⟩
      have ev : PyData.eqv (.list (PyData.int n :: ns.map PyData.int)) (.list []) = false := by simp [PyData.eqv, PyData.eqvAll]
      have d1 : decide ((0 : Int) < ((n :: ns).length : Nat)) = true := decide_eq_true hl
      simp only [List.length_cons] at hx d1
      simp?! [z, ev, d1, hx]
  obtain ⟨cl, hc⟩ := cell
  obtain ⟨mx, hmx, hpos, hle⟩ : ∃ mx : Int, (if (1 : Int) > ((ns.length : Nat) : Int) then (1 : Int) else ((ns.length : Nat) : Int)) = mx ∧ 0 < mx ∧ mx ≤ 63 := by
    refine ⟨_, rfl, ?_, ?_⟩ <;> split <;> omega
  have ht : k / mx ≤ k := Int.ediv_le_self _ h0
  obtain ⟨r', t', hw⟩ := pick_loop ns k many cl 900000 (cl / 1000000000000000000) (k / mx) (by omega)
  have q1 : ∀ i, fdivD (.int i) (.int mx) = some (.sh, .int (i / mx)) := fun i => fdiv_ok hpos (by omega)
  have q2 : ∀ i, fdivD (.int i) (.int 1000000000000000000) = some (.sh, .int (i / 1000000000000000000)) := fun i => fdiv_ok (by decide) (by decide)
  have q3 : ∀ i, modD (.int i) (.int many) = some (.sh, .int (i % many)) := fun i => mod_ok hm
  have q4 : ∀ i, modD (.int i) (.int 840) = some (.sh, .int (i % 840)) := fun i => mod_ok (by decide)
  have q5 : ∀ i, modD (.int i) (.int 2147483399) = some (.sh, .int (i % 2147483399)) := fun i => mod_ok (by decide)
  have q6 : ∀ i, modD (.int i) (.int 2147483629) = some (.sh, .int (i % 2147483629)) := fun i => mod_ok (by decide)
  have q7 : ∀ i, mulD (.int i) (.int 31) = some (.sh, .int (i * 31)) := fun i => mul_okr (by decide) (by decide)
  have q8 : ∀ i, mulD (.int 6151) (.int i) = some (.sh, .int (6151 * i)) := fun i => mul_okl (by decide) (by decide)
  have q9 : ∀ i, mulD (.int i) (.int 40692) = some (.sh, .int (i * 40692)) := fun i => mul_okr (by decide) (by decide)
  have q10 : ∀ i, fdivD (.int i) (.int 31) = some (.sh, .int (i / 31)) := fun i => fdiv_ok (by decide) (by decide)
  have hrun : ∃ r : Int, 0 ≤ r ∧ r < many ∧ ∃ e, m_law_pick (startE 7 [.scr ns, .int k, .int many]) = .ok (.rt (.sh, .int r) e) := by
    unfold m_law_pick
    rw [mSeq_ok (mSet_ok hc rfl)]
    rw [mSeq_ok (e := [some (.sh, .scr ns), some (.sh, .int k), some (.sh, .int many), some (.sh, .int cl), some (.sh, .int (cl / 1000000000000000000)), some (.sh, .int (k / mx)), none]) (by simp_all? [pow18, q1, q2, hmx])]
    rw [mSeq_ok (mWhile_of (n := 900000 + 1) (by decide) hw)]
    by_cases h1 : 0 < r'
    · refine ⟨r' % 840 % many, Int.emod_nonneg _ (by omega), Int.emod_lt_of_pos _ hm, _, mSeq_rt (e := [some (.sh, .scr ns), some (.sh, .int k), some (.sh, .int many), some (.sh, .int cl), some (.sh, .int r'), some (.sh, .int t'), none]) ?_⟩
      simp_all? [h1, q3, q4]
    · rw [mSeq_ok (e := [some (.sh, .scr ns), some (.sh, .int k), some (.sh, .int many), some (.sh, .int cl), some (.sh, .int r'), some (.sh, .int t'), none]) (by simp_all? [h1])]
      generalize hd : (cl * 31 + 6151 * (k + 1)) * 40692 % 2147483399 = d
      have d0 : 0 ≤ d := by rw [← hd]; exact Int.emod_nonneg _ (by decide)
      have d1 : d < 2147483399 := by rw [← hd]; exact Int.emod_lt_of_pos _ (by decide)
      have q11 : ∀ i, mulD (.int d) (.int i) = some (.sh, .int (d * i)) := fun i => mul_okl (by omega) (by omega)
      rw [mSeq_ok (e := [some (.sh, .scr ns), some (.sh, .int k), some (.sh, .int many), some (.sh, .int cl), some (.sh, .int r'), some (.sh, .int t'), some (.sh, .int d)]) (by simp_all? [q5, q7, q8, q9, hd])]
      refine ⟨(d * d + d / 31) % 2147483629 % many, Int.emod_nonneg _ (by omega), Int.emod_lt_of_pos _ hm, [some (.sh, .scr ns), some (.sh, .int k), some (.sh, .int many), some (.sh, .int cl), some (.sh, .int r'), some (.sh, .int t'), some (.sh, .int d)], ?_⟩
      simp_all? [q3, q6, q10, q11]
  obtain ⟨r, a, b, e, h⟩ := hrun
  exact ⟨r, a, b, runMo_rt h⟩
end Pm
set_option maxHeartbeats 4000000
namespace Pm.I
open PySem PySem.Spec PyProof.Rows L2 GxR GX TL
variable [LamTab]
def nm9 : List Dt := [.str "bend", .str "dead", .str "fold", .str "join", .str "prune", .str "reuse", .str "skip", .str "spread", .str "mine"]
noncomputable abbrev eNm9 : Ev → Mo Rv := (eBin addD (eCall F_law_always aNil) (eLst (aCons (eC (.str "mine")) aNil)))
theorem nm9_ev (env : Ev) : eNm9 env = .ok (.nw, .lst nm9) := by
  have e : F_law_always [] = .ok (.nw, .lst [.str "bend", .str "dead", .str "fold", .str "join", .str "prune", .str "reuse", .str "skip", .str "spread"]) := by kernel_rfl
  exact eBin_ok (x := (.nw, .lst [.str "bend", .str "dead", .str "fold", .str "join", .str "prune", .str "reuse", .str "skip", .str "spread"])) (y := (.nw, .lst [.str "mine"])) (eCall_ok (rvs := []) rfl e (.inl rfl)) rfl rfl
def nmB : Dt → Bool
  | .str z => decide (1 ≤ (tl z).length ∧ (tl z).length ≤ 6) && (tl z).all letQ
  | _ => false
theorem nm9_ok : ∀ d ∈ nm9, ∃ w, NmD d w := by
  have h : nm9.all nmB = true := by decide +kernel
  intro d hd
  have b := List.all_eq_true.mp h d hd
  unfold nmB at b
  split at b
  · rename_i z
    rw [Bool.and_eq_true] at b
    have b1 := of_decide_eq_true b.1
    exact ⟨tl z, b1.1, b1.2, fun c hc => List.all_eq_true.mp b.2 c hc, by rw [show st (tl z) = z from mk_tl z]⟩
  · cases b
def tms : List Dt := [.non, .int 1, .int 2, .int 3]
theorem tms_ok : ∀ d ∈ tms, ∃ m, TmD d m := by
  intro d hd
  simp only [tms, List.mem_cons, List.not_mem_nil, or_false] at hd
  rcases hd with rfl | rfl | rfl | rfl
  · exact ⟨43, by decide, by kernel_rfl⟩
  · exact ⟨49, by decide, by kernel_rfl⟩
  · exact ⟨50, by decide, by kernel_rfl⟩
  · exact ⟨51, by decide, by kernel_rfl⟩
def bd : Nat → Nat
  | 0 => 6
  | n + 1 => 3 * bd n + 5
def Dr (n : Nat) (d : Dt) (w : List Nat) : Prop := ItP n d w ∧ w.length ≤ bd n
theorem bd6 : ∀ n, 6 ≤ bd n
  | 0 => Nat.le_refl _
  | n + 1 => by have := bd6 n; show 6 ≤ 3 * bd n + 5; omega
/-- up to three such items -/
def Dl (n : Nat) (ds : List Dt) (w : List Nat) : Prop := Its (ItP n) ds w ∧ w.length ≤ 3 * bd n + 2
noncomputable abbrev mLb (f : Ev → Mo Rv) : Sv := (mIf (bAnd (bCmp ltD (eVar 2) (eC (.int 2))) (bCmp eqD (eCall F_law_pick (aCons (eVar 0) (aCons (eBin addD (eBin addD (eVar 1) (eC (.int 1))) (eVar 4)) (aCons (eC (.int 3)) aNil)))) (eC (.int 0)))) (mSeq (mSet 5 (eIx (eLst (aCons (eC .non) (aCons (eC (.int 1)) (aCons (eC (.int 2)) (aCons (eC (.int 3)) aNil))))) (eCall F_law_pick (aCons (eVar 0) (aCons (eBin addD (eBin addD (eVar 1) (eC (.int 5))) (eVar 4)) (aCons (eC (.int 4)) aNil)))))) (mAppend 3 (eTup (aCons (eVar 5) (aCons (eB tupleD (aCons f aNil)) aNil))))) (mAppend 3 (eIx eNm9 (eCall F_law_pick (aCons (eVar 0) (aCons (eBin addD (eBin addD (eVar 1) (eC (.int 9))) (eVar 4)) (aCons (eC (.int 9)) aNil)))))))
noncomputable def mLi (f : Ev → Mo Rv) : Sv := (mSeq (mSet 3 (eLst aNil)) (mSeq (mFor (eWv rngD1 (aCons (eBin addD (eC (.int 1)) (eCall F_law_pick (aCons (eVar 0) (aCons (eVar 1) (aCons (eC (.int 3)) aNil))))) aNil)) (pName 4) (mLb f)) (mRetV 3)))
abbrev fLi (F : List Dt → Mo Rv) : Ev → Mo Rv := (eCall F (aCons (eVar 0) (aCons (eBin addD (eBin addD (eBin addD (eVar 1) (eC (.int 20))) (eBin mulD (eC (.int 40)) (eVar 4))) (eBin mulD (eC (.int 13)) (eVar 2))) (aCons (eBin addD (eVar 2) (eC (.int 1))) aNil))))
noncomputable def Lk : Nat → List Dt → Mo Rv
  | 0 => runMo 6 (mLi eNo)
  | n + 1 => runMo 6 (mLi (fLi (Lk n)))
theorem L2k : F_law_items2 = Lk 2 := rfl
abbrev eL (ns : List Int) (at_ deep : Int) (L : List Dt) (x4 x5 : Option (Fl × Dt)) : Ev := [some (.sh, .scr ns), some (.sh, .int at_), some (.sh, .int deep), some (.ow, .lst L), x4, x5]
section
variable {ns : List Int} (hl : ns.length ≤ 63) {at_ deep : Int}
include hl
theorem pick_call {env : Ev} {fs : Ev → Mo (List Rv)} {k many : Int} (h : fs env = .ok [(.sh, .scr ns), (.sh, .int k), (.sh, .int many)]) (h0 : 0 ≤ k) (hk : k ≤ 900000) (hm : 0 < many) : ∃ r : Int, 0 ≤ r ∧ r < many ∧ (eCall F_law_pick fs) env = .ok (.sh, .int r) := by
  obtain ⟨r, r0, r1, e⟩ := F_pick ns hl k many h0 hk hm
  exact ⟨r, r0, r1, eCall_ok h e (.inl rfl)⟩
theorem draw_nm {f : Ev → Mo Rv} {n : Nat} {L : List Dt} {k : Nat} {x5 : Option (Fl × Dt)} (h0 : 0 ≤ at_) (h1 : at_ ≤ 1000) (hk : k ≤ 2) (hL : L.length ≤ 3) :
    ∃ q : Pr, Dr n q.1 q.2 ∧ (mAppend 3 (eIx eNm9 (eCall F_law_pick (aCons (eVar 0) (aCons (eBin addD (eBin addD (eVar 1) (eC (.int 9))) (eVar 4)) (aCons (eC (.int 9)) aNil)))))) (eL ns at_ deep L (some (.sh, .int (0 + (k : Int)))) x5) = .ok (.nx (eL ns at_ deep (L ++ [q.1]) (some (.sh, .int (0 + (k : Int)))) x5)) := by
  obtain ⟨r, r0, r1, e⟩ := pick_call hl (env := eL ns at_ deep L (some (.sh, .int (0 + (k : Int)))) x5) (fs := aCons (eVar 0) (aCons (eBin addD (eBin addD (eVar 1) (eC (.int 9))) (eVar 4)) (aCons (eC (.int 9)) aNil))) (k := at_ + 9 + (0 + (k : Int))) (many := 9) rfl (by omega) (by omega) (by decide)
  obtain ⟨d, hd, md⟩ := atI_in (xs := nm9) r0 (by show r < 9; exact r1)
  obtain ⟨w, hw⟩ := nm9_ok d md
  refine ⟨(d, w), ⟨.name hw, Nat.le_trans hw.2.1 (bd6 n)⟩, ?_⟩
  have e2 : (eIx eNm9 (eCall F_law_pick (aCons (eVar 0) (aCons (eBin addD (eBin addD (eVar 1) (eC (.int 9))) (eVar 4)) (aCons (eC (.int 9)) aNil))))) (eL ns at_ deep L (some (.sh, .int (0 + (k : Int)))) x5) = .ok (.sh, d) :=
    eBin_ok (nm9_ev _) e (by show (atI nm9 r).map _ = _; rw [hd]; rfl)
  exact mAppend_ok (fl := .ow) (xs := L) rfl e2 rfl (by omega)
theorem draw_one {f : Ev → Mo Rv} {n : Nat} {L : List Dt} {k : Nat} {x5 : Option (Fl × Dt)} (h0 : 0 ≤ at_) (h1 : at_ ≤ 1000) (hk : k ≤ 2) (hL : L.length ≤ 3)
    (hf : deep < 2 → ∃ (n' : Nat) (ds : List Dt) (w : List Nat), n = n' + 1 ∧ Dl n' ds w ∧ ∀ x5, f (eL ns at_ deep L (some (.sh, .int (0 + (k : Int)))) x5) = .ok (.nw, .lst ds)) :
    ∃ (q : Pr) (x5' : Option (Fl × Dt)), Dr n q.1 q.2 ∧ mLb f (eL ns at_ deep L (some (.sh, .int (0 + (k : Int)))) x5) = .ok (.nx (eL ns at_ deep (L ++ [q.1]) (some (.sh, .int (0 + (k : Int)))) x5')) := by
  have q1 : (bCmp ltD (eVar 2) (eC (.int 2))) (eL ns at_ deep L (some (.sh, .int (0 + (k : Int)))) x5) = .ok (decide (deep < 2)) := bCmp_ok (x := (.sh, .int deep)) (y := (.sh, .int 2)) rfl rfl rfl
  obtain ⟨r, r0, r1, e⟩ := pick_call hl (env := eL ns at_ deep L (some (.sh, .int (0 + (k : Int)))) x5) (fs := aCons (eVar 0) (aCons (eBin addD (eBin addD (eVar 1) (eC (.int 1))) (eVar 4)) (aCons (eC (.int 3)) aNil))) (k := at_ + 1 + (0 + (k : Int))) (many := 3) rfl (by omega) (by omega) (by decide)
  have q2 := bCmp_ok (o := eqD) (g := eC (.int 0)) (y := (.sh, .int 0)) (b := r == 0) e rfl rfl
  by_cases hd : deep < 2
  · rw [decide_eq_true hd] at q1
    have q3 := (bAnd_t (q := bCmp eqD (eCall F_law_pick (aCons (eVar 0) (aCons (eBin addD (eBin addD (eVar 1) (eC (.int 1))) (eVar 4)) (aCons (eC (.int 3)) aNil)))) (eC (.int 0))) q1).trans q2
    by_cases hr : r = 0
    · rw [beq_iff_eq.mpr hr] at q3
      obtain ⟨n', ds, w, rfl, ⟨hw, lw⟩, hf⟩ := hf hd
      obtain ⟨s, s0, s1, es⟩ := pick_call hl (env := eL ns at_ deep L (some (.sh, .int (0 + (k : Int)))) x5) (fs := aCons (eVar 0) (aCons (eBin addD (eBin addD (eVar 1) (eC (.int 5))) (eVar 4)) (aCons (eC (.int 4)) aNil))) (k := at_ + 5 + (0 + (k : Int))) (many := 4) rfl (by omega) (by omega) (by decide)
      obtain ⟨tm, htm, mt⟩ := atI_in (xs := tms) s0 (by show s < 4; exact s1)
      obtain ⟨m, hm⟩ := tms_ok tm mt
      have e2 : (eIx (eLst (aCons (eC .non) (aCons (eC (.int 1)) (aCons (eC (.int 2)) (aCons (eC (.int 3)) aNil))))) (eCall F_law_pick (aCons (eVar 0) (aCons (eBin addD (eBin addD (eVar 1) (eC (.int 5))) (eVar 4)) (aCons (eC (.int 4)) aNil))))) (eL ns at_ deep L (some (.sh, .int (0 + (k : Int)))) x5) = .ok (.sh, tm) :=
        eBin_ok (x := (.nw, .lst tms)) rfl es (by show (atI tms s).map _ = _; rw [htm]; rfl)
      have e3 := hf (some (.sh, tm))
      have e4 : (eTup (aCons (eVar 5) (aCons (eB tupleD (aCons f aNil)) aNil))) (eL ns at_ deep L (some (.sh, .int (0 + (k : Int)))) (some (.sh, tm))) = .ok (.sh, .tup [tm, .tup ds]) := by
        have e5 : (eB tupleD (aCons f aNil)) (eL ns at_ deep L (some (.sh, .int (0 + (k : Int)))) (some (.sh, tm))) = .ok (.sh, .tup ds) := by
          exact eB_ok (rvs := [(.nw, .lst ds)]) (aCons_ok e3 rfl) rfl
        exact eTup_ok (aCons_ok (x := (.sh, tm)) rfl (aCons_ok e5 rfl)) rfl
      refine ⟨(.tup [tm, .tup ds], 40 :: (w ++ [41, m])), some (.sh, tm), ⟨.inr ⟨tm, m, ds, w, hm, hw, rfl, rfl⟩, ?_⟩, ?_⟩
      · show (40 :: (w ++ [41, m])).length ≤ 3 * bd n' + 5
        rw [List.length_cons, List.length_append, List.length_cons, List.length_singleton]
        omega
      · exact (mIf_t q3).trans ((mSeq_ok (mSet_ok e2 rfl)).trans (mAppend_ok (fl := .ow) (xs := L) rfl e4 rfl (by omega)))
    · rw [beq_eq_false_iff_ne.mpr hr] at q3
      obtain ⟨q, g1, g2⟩ := draw_nm (f := f) (n := n) (deep := deep) (x5 := x5) hl h0 h1 hk hL
      exact ⟨q, x5, g1, (mIf_f q3).trans g2⟩
  · rw [decide_eq_false hd] at q1
    obtain ⟨q, g1, g2⟩ := draw_nm (f := f) (n := n) (deep := deep) (x5 := x5) hl h0 h1 hk hL
    exact ⟨q, x5, g1, (mIf_f (bAnd_f q1)).trans g2⟩
theorem draw_loop {f : Ev → Mo Rv} {n : Nat} (h0 : 0 ≤ at_) (h1 : at_ ≤ 1000)
    (hf : deep < 2 → ∀ k : Nat, k ≤ 2 → ∃ (n' : Nat) (ds : List Dt) (w : List Nat), n = n' + 1 ∧ Dl n' ds w ∧ ∀ L x5, f (eL ns at_ deep L (some (.sh, .int (0 + (k : Int)))) x5) = .ok (.nw, .lst ds)) :
    ∀ (ks : List Nat) (L : List Dt) (x4 x5 : Option (Fl × Dt)), (∀ k ∈ ks, k ≤ 2) → L.length + ks.length ≤ 3 →
      ∃ (l : List Pr) (x4' x5' : Option (Fl × Dt)), l.length = ks.length ∧ (∀ q ∈ l, Dr n q.1 q.2) ∧ fLoop (pName 4) (mLb f) (ks.map fun (i : Nat) => Dt.int (0 + (i : Int))) (eL ns at_ deep L x4 x5) = .ok (.nx (eL ns at_ deep (L ++ l.map (·.1)) x4' x5'))
  | [], L, x4, x5, _, _ => ⟨[], x4, x5, rfl, fun _ h => (by cases h), by simp [fLoop]⟩
  | k :: ks, L, x4, x5, hk, hL => by
    rw [List.length_cons] at hL
    obtain ⟨q, x5', g1, g2⟩ := draw_one (f := f) (n := n) (L := L) (k := k) (x5 := x5) (deep := deep) hl h0 h1 (hk k (.head _)) (by omega) fun hd => by
      obtain ⟨n', ds, w, a, b, c⟩ := hf hd k (hk k (.head _))
      exact ⟨n', ds, w, a, b, fun x => c L x⟩
    obtain ⟨l, x4', x5'', g3, g4, g5⟩ := draw_loop h0 h1 hf ks (L ++ [q.1]) (some (.sh, .int (0 + (k : Int)))) x5' (fun k hk2 => hk k (.tail _ hk2)) (by rw [List.length_append, List.length_singleton]; omega)
    refine ⟨q :: l, x4', x5'', by rw [List.length_cons, List.length_cons, g3], fun q' hq => ?_, ?_⟩
    · rcases List.mem_cons.mp hq with rfl | hq
      · exact g1
      · exact g4 q' hq
    rw [List.map_cons, fLoop]
    show ((mLb f (eL ns at_ deep L (some (.sh, .int (0 + (k : Int)))) x5)).bind _) = _
    rw [g2, Mo.bind_ok]
    refine g5.trans ?_
    rw [List.append_assoc]
    rfl
theorem dl_of {n : Nat} {l : List Pr} (h1 : 1 ≤ l.length) (h3 : l.length ≤ 3) (h : ∀ q ∈ l, Dr n q.1 q.2) : ∃ w, Dl n (l.map (·.1)) w := by
  cases l with
  | nil => exact absurd h1 (by simp)
  | cons p l =>
    refine ⟨p.2 ++ tlJ l, ⟨p, l, (h p (.head _)).1, fun q hq => (h q (.tail _ hq)).1, rfl, rfl⟩, ?_⟩
    have hp := (h p (.head _)).2
    have hb : ∀ l : List Pr, (∀ q ∈ l, Dr n q.1 q.2) → (tlJ l).length ≤ l.length * (bd n + 1) := fun l => by
      induction l with
      | nil => intro _; simp [tlJ]
      | cons q l ih =>
        intro h
        have := ih fun q hq => h q (.tail _ hq)
        have hq := (h q (.head _)).2
        rw [show tlJ (q :: l) = (32 :: q.2) ++ tlJ l from rfl, List.length_append, List.length_cons, List.length_cons, Nat.succ_mul]
        omega
    have hl := hb l fun q hq => h q (.tail _ hq)
    rw [List.length_cons] at h3
    have : l.length * (bd n + 1) ≤ 2 * (bd n + 1) := Nat.mul_le_mul_right _ (by omega)
    rw [List.length_append]
    omega
theorem items_drawn : ∀ (n : Nat) (at_ deep : Int), deep + n = 2 → 0 ≤ deep → 0 ≤ at_ → at_ ≤ 500 + 200 * deep → ∃ (ds : List Dt) (w : List Nat), Lk n [.scr ns, .int at_, .int deep] = .ok (.nw, .lst ds) ∧ Dl n ds w := by
  have core : ∀ (f : Ev → Mo Rv) (n : Nat) (at_ deep : Int), 0 ≤ at_ → at_ ≤ 1000 → (deep < 2 → ∀ k : Nat, k ≤ 2 → ∃ (n' : Nat) (ds : List Dt) (w : List Nat), n = n' + 1 ∧ Dl n' ds w ∧ ∀ L x5, f (eL ns at_ deep L (some (.sh, .int (0 + (k : Int)))) x5) = .ok (.nw, .lst ds)) →
      ∃ (ds : List Dt) (w : List Nat), runMo 6 (mLi f) [.scr ns, .int at_, .int deep] = .ok (.nw, .lst ds) ∧ Dl n ds w := by
    intro f n at_ deep h0 h1 hf
    obtain ⟨r, r0, r1, e⟩ := pick_call hl (env := eL ns at_ deep [] none none) (fs := aCons (eVar 0) (aCons (eVar 1) (aCons (eC (.int 3)) aNil))) (k := at_) (many := 3) rfl h0 (by omega) (by decide)
    obtain ⟨l, x4', x5', g1, g2, g3⟩ := draw_loop (f := f) (n := n) hl h0 h1 hf (List.range (1 + r).toNat) [] none none (fun k hk => by have := List.mem_range.mp hk; omega) (by rw [List.length_range]; simp; omega)
    rw [List.length_range] at g1
    obtain ⟨w, hw⟩ := dl_of (n := n) hl (l := l) (by omega) (by omega) g2
    refine ⟨l.map (·.1), w, ?_, hw⟩
    have e1 : (eWv rngD1 (aCons (eBin addD (eC (.int 1)) (eCall F_law_pick (aCons (eVar 0) (aCons (eVar 1) (aCons (eC (.int 3)) aNil))))) aNil)) (eL ns at_ deep [] none none) = .ok (.sh, rng 0 (1 + r).toNat) := by
      have e2 : (eBin addD (eC (.int 1)) (eCall F_law_pick (aCons (eVar 0) (aCons (eVar 1) (aCons (eC (.int 3)) aNil))))) (eL ns at_ deep [] none none) = .ok (.sh, .int (1 + r)) := eBin_ok (x := (.sh, .int 1)) rfl e rfl
      unfold eWv
      rw [aCons_ok e2 rfl]
      show Mo.of (rngD1 [(.sh, .int (1 + r))]) = _
      unfold rngD1
      simp only
      rw [if_pos (by omega)]
      rfl
    have g4 : (mFor (eWv rngD1 (aCons (eBin addD (eC (.int 1)) (eCall F_law_pick (aCons (eVar 0) (aCons (eVar 1) (aCons (eC (.int 3)) aNil))))) aNil)) (pName 4) (mLb f)) (eL ns at_ deep [] none none) = .ok (.nx (eL ns at_ deep ([] ++ l.map (·.1)) x4' x5')) := by
      unfold mFor
      rw [e1, Mo.bind_ok, if_neg (fun z => by cases z)]
      exact g3
    exact runMo_rt ((mSeq_ok (e := eL ns at_ deep [] none none) rfl).trans ((mSeq_ok g4).trans rfl))
  intro n
  induction n with
  | zero =>
    intro at_ deep hd h2 h0 h1
    exact core eNo 0 at_ deep h0 (by omega) fun h => absurd h (by omega)
  | succ n ih =>
    intro at_ deep hd h2 h0 h1
    refine core (fLi (Lk n)) (n + 1) at_ deep h0 (by omega) fun h k hk => ?_
    obtain ⟨ds, w, g, hw⟩ := ih (at_ + 20 + 40 * (0 + (k : Int)) + 13 * deep) (deep + 1) (by omega) (by omega) (by omega) (by omega)
    refine ⟨n, ds, w, rfl, hw, fun L x5 => eCall_ok (rvs := [(.sh, .scr ns), (.sh, .int (at_ + 20 + 40 * (0 + (k : Int)) + 13 * deep)), (.sh, .int (deep + 1))]) ?_ g (.inl rfl)⟩
    have m1 : mulD (.int 40) (.int (0 + (k : Int))) = some (.sh, .int (40 * (0 + (k : Int)))) := mul_okl (by decide) (by decide)
    have m2 : mulD (.int 13) (.int deep) = some (.sh, .int (13 * deep)) := mul_okl (by decide) (by decide)
    have e1 : (eBin mulD (eC (.int 40)) (eVar 4)) (eL ns at_ deep L (some (.sh, .int (0 + (k : Int)))) x5) = .ok (.sh, .int (40 * (0 + (k : Int)))) := eBin_ok (x := (.sh, .int 40)) (y := (.sh, .int (0 + (k : Int)))) rfl rfl m1
    have e2 : (eBin mulD (eC (.int 13)) (eVar 2)) (eL ns at_ deep L (some (.sh, .int (0 + (k : Int)))) x5) = .ok (.sh, .int (13 * deep)) := eBin_ok (x := (.sh, .int 13)) (y := (.sh, .int deep)) rfl rfl m2
    have e3 : (eBin addD (eBin addD (eVar 1) (eC (.int 20))) (eBin mulD (eC (.int 40)) (eVar 4))) (eL ns at_ deep L (some (.sh, .int (0 + (k : Int)))) x5) = .ok (.sh, .int (at_ + 20 + 40 * (0 + (k : Int)))) := eBin_ok (x := (.sh, .int (at_ + 20))) rfl e1 rfl
    have e4 : (eBin addD (eBin addD (eBin addD (eVar 1) (eC (.int 20))) (eBin mulD (eC (.int 40)) (eVar 4))) (eBin mulD (eC (.int 13)) (eVar 2))) (eL ns at_ deep L (some (.sh, .int (0 + (k : Int)))) x5) = .ok (.sh, .int (at_ + 20 + 40 * (0 + (k : Int)) + 13 * deep)) := eBin_ok e3 e2 rfl
    exact aCons_ok (x := (.sh, .scr ns)) rfl (aCons_ok e4 rfl)
end
abbrev mLc (f : Ev → Mo Rv) : Sv := (mIf (bTru (eIsi "str" (eVar 2))) (mAppend 1 (eVar 2)) (mAppend 1 (eBin addD (eBin addD (eBin addD (eC (.str "(")) f) (eC (.str ")"))) (eIf (bCmp isDt (eIx (eVar 2) (eC (.int 0))) (eC .non)) (eC (.str "+")) (eB strOD (aCons (eIx (eVar 2) (eC (.int 0))) aNil))))))
def mLl (f : Ev → Mo Rv) : Sv := (mSeq (mSet 1 (eLst aNil)) (mSeq (mFor (eIt (eVar 0)) (pName 2) (mLc f)) (mRet (eJoin (eC (.str " ")) (eVar 1)))))
noncomputable def Yk : Nat → List Dt → Mo Rv
  | 0 => runMo 3 (mLl eNo)
  | n + 1 => runMo 3 (mLl (eCall (Yk n) (aCons (eIx (eVar 2) (eC (.int 1))) aNil)))
theorem Y2 : F_law_line_of2 = Yk 2 := rfl
abbrev eW (x : Dt) (L : List Dt) (y : Option (Fl × Dt)) : Ev := [some (.sh, x), some (.ow, .lst L), y]
theorem add_st {l l' : List Nat} (h : l.length + l'.length ≤ 1000000) : addD (.str (st l)) (.str (st l')) = some (.sh, .str (st (l ++ l'))) := by
  unfold addD
  simp only
  rw [if_pos (show (st l).length + (st l').length ≤ 1000000 from h), show (st l) ++ (st l') = st (l ++ l') from ext_tl (by rw [tl_append])]
theorem line_one {f : Ev → Mo Rv} {n : Nat} {x : Dt} {L : List Dt} {q : Pr} (hq : ItP n q.1 q.2) (hw : q.2.length ≤ 500) (hL : L.length ≤ 1000)
    (hf : ∀ (n' : Nat) (tm : Dt) (ds : List Dt) (v : List Nat), n = n' + 1 → q.1 = .tup [tm, .tup ds] → Its (ItP n') ds v → v.length ≤ 500 → f (eW x L (some (.sh, .tup [tm, .tup ds]))) = .ok (.sh, .str (st v))) :
    mLc f (eW x L (some (.sh, q.1))) = .ok (.nx (eW x (L ++ [.str (st q.2)]) (some (.sh, q.1)))) := by
  have nm : NmD q.1 q.2 → mLc f (eW x L (some (.sh, q.1))) = .ok (.nx (eW x (L ++ [.str (st q.2)]) (some (.sh, q.1)))) := fun h => by
    have e := h.2.2.2
    rw [e]
    have q1 : (bTru (eIsi "str" (eVar 2))) (eW x L (some (.sh, .str (st q.2)))) = .ok true := bTru_bl (d := .sh) (by
      show Mo.ok ((Kd.sh, Dt.bl (isS "str" "str")) : Rv) = _
      rw [show isS "str" "str" = true by decide +kernel])
    exact (mIf_t q1).trans (mAppend_ok (fl := .ow) (xs := L) (rv := (.sh, .str (st q.2))) rfl rfl rfl (by omega))
  have br : ∀ n' tm m ds v, n = n' + 1 → TmD tm m → Its (ItP n') ds v → q.1 = .tup [tm, .tup ds] → q.2 = 40 :: (v ++ [41, m]) → mLc f (eW x L (some (.sh, q.1))) = .ok (.nx (eW x (L ++ [.str (st q.2)]) (some (.sh, q.1)))) := fun n' tm m ds v hn h1 h2 e1 e2 => by
    rw [e2, List.length_cons, List.length_append] at hw
    have e3 := hf n' tm ds v hn e1 h2 (by omega)
    rw [e1, e2]
    have q1 : (bTru (eIsi "str" (eVar 2))) (eW x L (some (.sh, .tup [tm, .tup ds]))) = .ok false := bTru_bl (d := .sh) (by
      show Mo.ok ((Kd.sh, Dt.bl (isS "tuple" "str")) : Rv) = _
      rw [show isS "tuple" "str" = false by decide +kernel])
    have c1 : (("(" : Str)) = st [40] := by decide +kernel
    have c2 : ((")" : Str)) = st [41] := by decide +kernel
    have c3 : (("+" : Str)) = st [43] := by decide +kernel
    have s1 : (eBin addD (eC (.str "(")) f) (eW x L (some (.sh, .tup [tm, .tup ds]))) = .ok (.sh, .str (st (40 :: v))) := eBin_ok (x := (.sh, .str (st [40]))) (by rw [← c1]; rfl) e3 (add_st (by rw [List.length_singleton]; omega))
    have s2 : (eBin addD (eBin addD (eC (.str "(")) f) (eC (.str ")"))) (eW x L (some (.sh, .tup [tm, .tup ds]))) = .ok (.sh, .str (st (40 :: v ++ [41]))) := eBin_ok (y := (.sh, .str (st [41]))) s1 (by rw [← c2]; rfl) (add_st (by rw [List.length_singleton, List.length_cons]; omega))
    have s3 : (eIf (bCmp isDt (eIx (eVar 2) (eC (.int 0))) (eC .non)) (eC (.str "+")) (eB strOD (aCons (eIx (eVar 2) (eC (.int 0))) aNil))) (eW x L (some (.sh, .tup [tm, .tup ds]))) = .ok (.sh, .str (st [m])) := by
      rcases tm_cases h1 with ⟨rfl, rfl⟩ | ⟨i, i1, i2, rfl, rfl⟩
      · rw [← c3]
        rfl
      · show Mo.of (strOD [.int ((i : Nat) : Int)]) = _
        rw [str_dig i i1 i2]
        rfl
    have s4 := eBin_ok (o := addD) s2 s3 (add_st (by rw [List.length_singleton, List.length_append, List.length_singleton, List.length_cons]; omega))
    refine (mIf_f q1).trans ((mAppend_ok (fl := .ow) (xs := L) rfl s4 rfl (by omega)).trans ?_)
    show Mo.ok (Fw.nx (eW x (L ++ [.str (st (40 :: v ++ [41] ++ [m]))]) _)) = _
    rw [show 40 :: v ++ [41] ++ [m] = 40 :: (v ++ [41, m]) by simp]
  cases n with
  | zero => exact nm hq
  | succ n =>
    rcases hq with h | ⟨tm, m, ds, v, h1, h2, e1, e2⟩
    · exact nm h
    · exact br n tm m ds v rfl h1 h2 e1 e2
theorem line_loop {f : Ev → Mo Rv} {n : Nat} {x : Dt} (hf : ∀ (L : List Dt) (n' : Nat) (tm : Dt) (ds : List Dt) (v : List Nat), n = n' + 1 → Its (ItP n') ds v → v.length ≤ 500 → f (eW x L (some (.sh, .tup [tm, .tup ds]))) = .ok (.sh, .str (st v))) :
    ∀ (l : List Pr) (L : List Dt) (y : Option (Fl × Dt)), L.length + l.length ≤ 1000 → (∀ q ∈ l, ItP n q.1 q.2 ∧ q.2.length ≤ 500) →
      ∃ y', fLoop (pName 2) (mLc f) (l.map (·.1)) (eW x L y) = .ok (.nx (eW x (L ++ l.map fun q => .str (st q.2)) y'))
  | [], L, y, _, _ => ⟨y, by simp [fLoop]⟩
  | q :: l, L, y, hL, h => by
    rw [List.length_cons] at hL
    have hq := h q (.head _)
    have g := line_one (f := f) (x := x) (L := L) hq.1 hq.2 (by omega) fun n' tm ds v a _ c d => hf L n' tm ds v a c d
    obtain ⟨y', g2⟩ := line_loop hf l (L ++ [.str (st q.2)]) (some (.sh, q.1)) (by rw [List.length_append, List.length_singleton]; omega) fun q hq => h q (.tail _ hq)
    refine ⟨y', ?_⟩
    rw [List.map_cons, fLoop]
    show ((mLc f (eW x L (some (.sh, q.1)))).bind _) = _
    rw [g, Mo.bind_ok]
    refine g2.trans ?_
    rw [List.append_assoc]
    rfl
theorem line_ok {f : Ev → Mo Rv} {n : Nat} {x : Dt} {p : Pr} {l : List Pr} (hx : itD (.sh, x) = some (.sh, p.1 :: l.map (·.1))) (hl : (p.2 ++ tlJ l).length ≤ 500) (h : ∀ q ∈ p :: l, ItP n q.1 q.2)
    (hf : ∀ (L : List Dt) (n' : Nat) (tm : Dt) (ds : List Dt) (v : List Nat), n = n' + 1 → Its (ItP n') ds v → v.length ≤ 500 → f (eW x L (some (.sh, .tup [tm, .tup ds]))) = .ok (.sh, .str (st v))) :
    runMo 3 (mLl f) [x] = .ok (.sh, .str (st (p.2 ++ tlJ l))) := by
  have s := sum_J l
  have hl2 := hl
  rw [List.length_append] at hl2
  obtain ⟨y', g⟩ := line_loop (f := f) (n := n) (x := x) hf (p :: l) [] none (by rw [List.length_nil, List.length_cons]; omega) fun q hq => ⟨h q hq, Nat.le_trans (len_J q hq) hl⟩
  have g4 : (mFor (eIt (eVar 0)) (pName 2) (mLc f)) (eW x [] none) = .ok (.nx (eW x ([] ++ (p :: l).map fun q => .str (st q.2)) y')) := by
    unfold mFor
    have e1 : (eIt (eVar 0)) (eW x [] none) = .ok (.sh, (p :: l).map (·.1)) := by
      show Mo.of (itD (.sh, x)) = _
      rw [hx]
      rfl
    rw [e1, Mo.bind_ok, if_neg (fun z => by cases z)]
    exact g
  refine runMo_rt ((mSeq_ok (e := eW x [] none) rfl).trans ((mSeq_ok g4).trans (mRet_ok (rv := (.sh, .str (st (p.2 ++ tlJ l)))) ?_ rfl)))
  show Mo.of (joinD (.str " ") (.lst ([] ++ (p :: l).map fun q => Dt.str (st q.2)))) = _
  rw [List.nil_append, show ((p :: l).map fun q => Dt.str (st q.2)) = (st p.2 :: l.map fun q => st q.2).map Dt.str by rw [List.map_cons, List.map_cons, List.map_map]; rfl]
  unfold joinD
  dsimp only
  rw [strs_map, Option.bind_some, if_pos, jn_eq]
  · rfl
  · rw [List.map_cons, List.sum_cons, List.length_cons, List.length_map, show (" " : Str).length = 1 by decide +kernel]
    have e : (st p.2).length = p.2.length := rfl
    rw [e]
    omega
theorem line_of : ∀ (n : Nat) {ds : List Dt} {w : List Nat}, Its (ItP n) ds w → w.length ≤ 500 → (Yk n [.lst ds] = .ok (.sh, .str (st w)) ∧ Yk n [.tup ds] = .ok (.sh, .str (st w)))
  | 0, ds, w, h, hw => by
    obtain ⟨p, l, g, rfl, rfl⟩ := h.mem
    exact ⟨line_ok (n := 0) rfl hw g fun _ _ _ _ _ e => (by cases e), line_ok (n := 0) rfl hw g fun _ _ _ _ _ e => (by cases e)⟩
  | n + 1, ds, w, h, hw => by
    obtain ⟨p, l, g, rfl, rfl⟩ := h.mem
    have key : ∀ (x : Dt) (L : List Dt) (n' : Nat) (tm : Dt) (ds : List Dt) (v : List Nat), n + 1 = n' + 1 → Its (ItP n') ds v → v.length ≤ 500 → (eCall (Yk n) (aCons (eIx (eVar 2) (eC (.int 1))) aNil)) (eW x L (some (.sh, .tup [tm, .tup ds]))) = .ok (.sh, .str (st v)) := fun x L n' tm ds v e hv lv => by
      cases e
      exact eCall_ok (rvs := [(.sh, .tup ds)]) rfl (line_of n hv lv).2 (.inl rfl)
    exact ⟨line_ok (n := n + 1) rfl hw g (key _), line_ok (n := n + 1) rfl hw g (key _)⟩
end Pm.I
set_option maxHeartbeats 4000000
namespace Pm.I
open PySem PySem.Spec PyProof.Rows L2 GxR GX TL
variable [LamTab]
theorem NmD.sgn {d : Dt} {w : List Nat} (h : NmD d w) : ∀ c ∈ w, c < 123 := fun c hc => by
  have := h.2.2.1 c hc
  unfold letQ at this
  have := of_decide_eq_true this
  omega
theorem tlJ_sgn {l : List Pr} (h : ∀ q ∈ l, ∀ c ∈ q.2, c < 123) : ∀ c ∈ tlJ l, c < 123 := fun c hc => by
  obtain ⟨q, hq, hc⟩ := List.mem_flatMap.mp hc
  rcases List.mem_cons.mp hc with rfl | hc
  · decide
  · exact h q hq c hc
theorem ItP.sgn : ∀ {n : Nat} {d : Dt} {w : List Nat}, ItP n d w → ∀ c ∈ w, c < 123
  | 0, _, _, h => NmD.sgn h
  | n + 1, _, _, .inl h => NmD.sgn h
  | n + 1, _, _, .inr ⟨tm, m, ds, v, h1, h2, _, e⟩ => fun c hc => by
    obtain ⟨p, l, g, _, rfl⟩ := h2.mem
    rw [e] at hc
    rcases List.mem_cons.mp hc with rfl | hc
    · decide
    rcases List.mem_append.mp hc with hc | hc
    · rcases List.mem_append.mp hc with hc | hc
      · exact ItP.sgn (g p (.head _)) c hc
      · exact tlJ_sgn (fun q hq => ItP.sgn (g q (.tail _ hq))) c hc
    · rcases List.mem_cons.mp hc with rfl | hc
      · decide
      · rw [List.mem_singleton.mp hc]; exact h1.1
theorem Dl.txo {ds : List Dt} {w : List Nat} (h : Dl 2 ds w) : (st w).length ≤ 224 ∧ ∀ c ∈ tl (st w), c < 123 := by
  obtain ⟨p, l, g, _, rfl⟩ := h.1.mem
  refine ⟨h.2, fun c hc => ?_⟩
  rcases List.mem_append.mp hc with hc | hc
  · exact ItP.sgn (g p (.head _)) c hc
  · exact tlJ_sgn (fun q hq => ItP.sgn (g q (.tail _ hq))) c hc
/-- a part of such a text -/
def Sm (n : Nat) (x : Str) : Prop := x.length ≤ n ∧ ∀ c ∈ tl x, c < 123
theorem Sm.cut {n : Nat} {x : Str} (h : Sm n x) (lo hi : Option Int) : Sm n (cutS x lo hi) := by
  have e : ∃ a b, tl (cutS x lo hi) = ((tl x).drop a).take b := by
    unfold cutS
    exact ⟨_, _, rfl⟩
  obtain ⟨a, b, e⟩ := e
  refine ⟨?_, fun c hc => ?_⟩
  · rw [len_tl, e, List.length_take, List.length_drop]
    have := h.1
    have := len_tl x
    omega
  · rw [e] at hc
    exact h.2 c (List.mem_of_mem_drop (List.mem_of_mem_take hc))
theorem Sm.app {n m : Nat} {x y : Str} (h : Sm n x) (g : Sm m y) : Sm (n + m) (x ++ y) := by
  refine ⟨?_, fun c hc => ?_⟩
  · rw [len_tl, tl_append, List.length_append, ← len_tl, ← len_tl]
    have := h.1
    have := g.1
    omega
  · rw [tl_append] at hc
    rcases List.mem_append.mp hc with hc | hc
    · exact h.2 c hc
    · exact g.2 c hc
theorem Sm.txo {n : Nat} {x : Str} (h : Sm n x) (hn : n ≤ 500) : Txo x := ⟨Nat.le_trans h.1 hn, h.2⟩
abbrev sgs : Str := "abz ()+190A-"
abbrev eE (ns : List Int) (ds : List Dt) (t0 : Str) (x4 x5 x6 x7 x8 : Option (Fl × Dt)) : Ev := [some (.sh, .scr ns), some (.ow, .lst ds), some (.sh, .str sgs), some (.sh, .str t0), x4, x5, x6, x7, x8, none, none, none]
noncomputable abbrev mTst : Sv := (mSeq (mSet 8 (eLawAt (eCall F_read_line (aCons (eVar 7) aNil)))) (mSeq (mIf (bAnd (bTru (eIsi "list" (eVar 8))) (bCmp neD (eCall F_line_text (aCons (eIx (eVar 8) (eC (.int 0))) aNil)) (eVar 7))) (mRet (eC (.bl false))) mNil) (mIf (bAnd (bNot (bTru (eIsi "list" (eVar 8)))) (bNot (bOf (eChain leD leD (eC (.int 0)) (eVar 8) (eB lenD (aCons (eVar 7) aNil)))))) (mRet (eC (.bl false))) mNil)))
theorem lawAt_ok {f : Ev → Mo Rv} {env : Ev} {rv : Rv} (h : f env = .ok rv) (hk : keepK rv = true) : eLawAt f env = .ok (.nw, .lst [rv.2]) := by
  unfold eLawAt
  rw [h]
  exact if_pos hk
theorem lawAt_ex {f : Ev → Mo Rv} {env : Ev} {i : Int} (h : f env = .ex "NoLine" (some i)) : eLawAt f env = .ok (.sh, .int i) := by
  unfold eLawAt
  rw [h]
  exact if_pos rfl
theorem eChain_ok {f g h : Ev → Mo Rv} {env : Ev} {i j l : Int} {k k' k2 : Kd} (hf : f env = .ok (k, .int i)) (hg : g env = .ok (k', .int j)) (hh : h env = .ok (k2, .int l)) : eChain leD leD f g h env = .ok (.sh, .bl (decide (i ≤ j) && decide (j ≤ l))) := by
  unfold eChain
  rw [hf, Mo.bind_ok, hg, Mo.bind_ok]
  show (if decide (i ≤ j) = true then _ else _) = _
  by_cases q : i ≤ j
  · rw [if_pos (decide_eq_true q), hh, decide_eq_true q]
    rfl
  · rw [if_neg (by rw [decide_eq_false q]; decide), decide_eq_false q]
    rfl
theorem ne_same (z : Str) : neD (.str z) (.str z) = some false := by simp [neD, eqD, eqSc]
theorem one_text {ns : List Int} {ds : List Dt} {t0 t : Str} {x4 x5 x6 x8 : Option (Fl × Dt)} (ht : Txo t) : ∃ x8', mTst (eE ns ds t0 x4 x5 x6 (some (.sh, .str t)) x8) = .ok (.nx (eE ns ds t0 x4 x5 x6 (some (.sh, .str t)) x8')) := by
  rcases read_res ht with ⟨i, hi, z⟩ | ⟨kd, es, hk, z, hd⟩
  · have z2 : (eCall F_read_line (aCons (eVar 7) aNil)) (eE ns ds t0 x4 x5 x6 (some (.sh, .str t)) x8) = .ex "NoLine" (some (i : Int)) := eCall_ex (rvs := [(.sh, .str t)]) rfl z
    refine ⟨some (.sh, .int (i : Int)), (mSeq_ok (e := eE ns ds t0 x4 x5 x6 (some (.sh, .str t)) (some (.sh, .int (i : Int)))) (mSet_ok (lawAt_ex z2) rfl)).trans ?_⟩
    have q1 : (bTru (eIsi "list" (eVar 8))) (eE ns ds t0 x4 x5 x6 (some (.sh, .str t)) (some (.sh, .int (i : Int)))) = .ok false := bTru_bl (d := .sh) (by
      show Mo.ok ((Kd.sh, Dt.bl (isS "int" "list")) : Rv) = _
      rw [show isS "int" "list" = false by decide +kernel])
    have q2 : (bNot (bOf (eChain leD leD (eC (.int 0)) (eVar 8) (eB lenD (aCons (eVar 7) aNil))))) (eE ns ds t0 x4 x5 x6 (some (.sh, .str t)) (some (.sh, .int (i : Int)))) = .ok false := bNot_ok (b := true) (bOf_bl (d := .sh) (by
      have h3 := ht.len
      have elen : (eB lenD (aCons (eVar 7) aNil)) (eE ns ds t0 x4 x5 x6 (some (.sh, .str t)) (some (.sh, .int (i : Int)))) = .ok (.sh, .int t.length) := eB_ok (rvs := [(.sh, .str t)]) rfl (by simp [lenD]; omega)
      have := eChain_ok (f := eC (.int 0)) (i := 0) (g := eVar 8) (j := (i : Int)) (k := .sh) (k' := .sh) rfl rfl elen
      rw [decide_eq_true (show (0 : Int) ≤ i by omega), decide_eq_true (show (i : Int) ≤ t.length by omega)] at this
      exact this))
    exact (mSeq_ok ((mIf_f (bAnd_f q1)).trans rfl)).trans ((mIf_f ((bAnd_t (bNot_ok q1)).trans q2)).trans rfl)
  · have z2 : (eCall F_read_line (aCons (eVar 7) aNil)) (eE ns ds t0 x4 x5 x6 (some (.sh, .str t)) x8) = .ok (kd, .lst es) := eCall_ok (rvs := [(.sh, .str t)]) rfl z (.inl rfl)
    refine ⟨some (.ow, .lst [.lst es]), (mSeq_ok (e := eE ns ds t0 x4 x5 x6 (some (.sh, .str t)) (some (.ow, .lst [.lst es]))) (mSet_ok (lawAt_ok z2 hk) rfl)).trans ?_⟩
    have q1 : (bTru (eIsi "list" (eVar 8))) (eE ns ds t0 x4 x5 x6 (some (.sh, .str t)) (some (.ow, .lst [.lst es]))) = .ok true := bTru_bl (d := .sh) (by
      show Mo.ok ((Kd.sh, Dt.bl (isS "list" "list")) : Rv) = _
      rw [show isS "list" "list" = true by decide +kernel])
    have w : F_line_text [.lst es] = .ok (.sh, .str t) := by
      rcases hd with ⟨rfl, rfl⟩ | h
      · exact line_nil
      · rw [line_text_eq h (by rw [← len_tl]; exact ht.len)]
    have q2 : (bCmp neD (eCall F_line_text (aCons (eIx (eVar 8) (eC (.int 0))) aNil)) (eVar 7)) (eE ns ds t0 x4 x5 x6 (some (.sh, .str t)) (some (.ow, .lst [.lst es]))) = .ok false :=
      bCmp_ok (y := (.sh, .str t)) (eCall_ok (rvs := [(.sh, .lst es)]) rfl w (.inl rfl)) rfl (ne_same t)
    exact (mSeq_ok ((mIf_f ((bAnd_t q1).trans q2)).trans rfl)).trans ((mIf_f (bAnd_f (bNot_ok q1))).trans rfl)
theorem texts_loop {ns : List Int} {ds : List Dt} {t0 : Str} {x4 x5 x6 : Option (Fl × Dt)} : ∀ (ts : List Str) (x7 x8 : Option (Fl × Dt)), (∀ t ∈ ts, Txo t) → ∃ x7' x8', fLoop (pName 7) mTst (ts.map Dt.str) (eE ns ds t0 x4 x5 x6 x7 x8) = .ok (.nx (eE ns ds t0 x4 x5 x6 x7' x8'))
  | [], x7, x8, _ => ⟨x7, x8, rfl⟩
  | t :: ts, x7, x8, h => by
    obtain ⟨y, g⟩ := one_text (ns := ns) (ds := ds) (t0 := t0) (x4 := x4) (x5 := x5) (x6 := x6) (x8 := x8) (h t (.head _))
    obtain ⟨x7', x8', g2⟩ := texts_loop (ns := ns) (ds := ds) (t0 := t0) (x4 := x4) (x5 := x5) (x6 := x6) ts (some (.sh, .str t)) y fun t ht => h t (.tail _ ht)
    refine ⟨x7', x8', ?_⟩
    rw [List.map_cons, fLoop]
    show ((mTst (eE ns ds t0 x4 x5 x6 (some (.sh, .str t)) x8)).bind _) = _
    rw [g]
    exact g2
noncomputable abbrev eTs : Ev → Mo Rv := (eTup (aCons (eBin addD (eSl (eVar 3) oNone (oSome (eVar 5))) (eSl (eVar 3) (oSome (eBin addD (eVar 5) (eC (.int 1)))) oNone)) (aCons (eBin addD (eBin addD (eSl (eVar 3) oNone (oSome (eVar 5))) (eVar 6)) (eSl (eVar 3) (oSome (eVar 5)) oNone)) (aCons (eBin addD (eBin addD (eSl (eVar 3) oNone (oSome (eVar 5))) (eVar 6)) (eSl (eVar 3) (oSome (eBin addD (eVar 5) (eC (.int 1)))) oNone)) aNil))))
noncomputable abbrev mPl : Sv := (mSeq (mPars [5, 6] (aConsK (eCall F_law_pick (aCons (eVar 0) (aCons (eBin addD (eC (.int 200)) (eVar 4)) (aCons (eBin addD (eB lenD (aCons (eVar 3) aNil)) (eC (.int 1))) aNil)))) (aConsK (eIx (eVar 2) (eCall F_law_pick (aCons (eVar 0) (aCons (eBin addD (eC (.int 210)) (eVar 4)) (aCons (eC (.int 12)) aNil))))) aNil))) (mFor (eIt eTs) (pName 7) mTst))
theorem sl_ok {t0 : Str} (h : t0.length ≤ 1000000) {f : Ev → Mo Rv} {p q : Ev → Mo (Option Int)} {env : Ev} {lo hi : Option Int} {k : Kd} (hf : f env = .ok (k, .str t0)) (hp : p env = .ok lo) (hq : q env = .ok hi) : eSl f p q env = .ok (.sh, .str (cutS t0 lo hi)) := by
  unfold eSl
  rw [hf, Mo.bind_ok, hp, Mo.bind_ok, hq, Mo.bind_ok]
  unfold slD
  simp only
  rw [if_pos h]
  rfl
theorem add_ok {x y : Str} {f g : Ev → Mo Rv} {env : Ev} {k k' : Kd} (hf : f env = .ok (k, .str x)) (hg : g env = .ok (k', .str y)) (h : x.length + y.length ≤ 1000000) : eBin addD f g env = .ok (.sh, .str (x ++ y)) :=
  eBin_ok hf hg (by unfold addD; simp only; rw [if_pos h])
theorem one_place {ns : List Int} (hl : ns.length ≤ 63) {ds : List Dt} {t0 : Str} (h0 : Sm 224 t0) {k : Nat} (hk : k < 6) {x5 x6 x7 x8 : Option (Fl × Dt)} :
    ∃ x5' x6' x7' x8', mPl (eE ns ds t0 (some (.sh, .int (0 + (k : Int)))) x5 x6 x7 x8) = .ok (.nx (eE ns ds t0 (some (.sh, .int (0 + (k : Int)))) x5' x6' x7' x8')) := by
  have lt := h0.1
  have elen : (eB lenD (aCons (eVar 3) aNil)) (eE ns ds t0 (some (.sh, .int (0 + (k : Int)))) x5 x6 x7 x8) = .ok (.sh, .int t0.length) := eB_ok (rvs := [(.sh, .str t0)]) rfl (by simp [lenD]; omega)
  have elen2 : (eBin addD (eB lenD (aCons (eVar 3) aNil)) (eC (.int 1))) (eE ns ds t0 (some (.sh, .int (0 + (k : Int)))) x5 x6 x7 x8) = .ok (.sh, .int (t0.length + 1)) := eBin_ok (y := (.sh, .int 1)) elen rfl rfl
  obtain ⟨a, a0, a1, ea⟩ := pick_call hl (env := eE ns ds t0 (some (.sh, .int (0 + (k : Int)))) x5 x6 x7 x8) (fs := aCons (eVar 0) (aCons (eBin addD (eC (.int 200)) (eVar 4)) (aCons (eBin addD (eB lenD (aCons (eVar 3) aNil)) (eC (.int 1))) aNil))) (k := 200 + (0 + (k : Int))) (many := t0.length + 1) (aCons_ok (x := (.sh, .scr ns)) rfl (aCons_ok (x := (.sh, .int (200 + (0 + (k : Int))))) rfl (aCons_ok elen2 rfl))) (by omega) (by omega) (by omega)
  obtain ⟨b, b0, b1, eb⟩ := pick_call hl (env := eE ns ds t0 (some (.sh, .int (0 + (k : Int)))) x5 x6 x7 x8) (fs := aCons (eVar 0) (aCons (eBin addD (eC (.int 210)) (eVar 4)) (aCons (eC (.int 12)) aNil))) (k := 210 + (0 + (k : Int))) (many := 12) rfl (by omega) (by omega) (by decide)
  have l12 : (tl sgs).length = 12 := by decide +kernel
  obtain ⟨c, hc, mc⟩ := atI_in (xs := tl sgs) b0 (by rw [l12]; exact b1)
  have c123 : c < 123 := by
    have : ∀ c ∈ tl sgs, c < 123 := by decide +kernel
    exact this c mc
  have ec : (eIx (eVar 2) (eCall F_law_pick (aCons (eVar 0) (aCons (eBin addD (eC (.int 210)) (eVar 4)) (aCons (eC (.int 12)) aNil))))) (eE ns ds t0 (some (.sh, .int (0 + (k : Int)))) x5 x6 x7 x8) = .ok (.sh, .str (st [c])) := by
    refine eBin_ok (x := (.sh, .str sgs)) rfl eb ?_
    show ixD (.str sgs) (.int b) = _
    unfold ixD
    simp only
    rw [if_pos (by rw [len_tl, l12]; decide), show atI sgs.cps.toList b = some c from hc]
    rfl
  have h1 : Sm 1 (st [c]) := ⟨Nat.le_refl _, fun d hd => by rw [List.mem_singleton.mp hd]; exact c123⟩
  have p1 : (mPars [5, 6] (aConsK (eCall F_law_pick (aCons (eVar 0) (aCons (eBin addD (eC (.int 200)) (eVar 4)) (aCons (eBin addD (eB lenD (aCons (eVar 3) aNil)) (eC (.int 1))) aNil)))) (aConsK (eIx (eVar 2) (eCall F_law_pick (aCons (eVar 0) (aCons (eBin addD (eC (.int 210)) (eVar 4)) (aCons (eC (.int 12)) aNil))))) aNil))) (eE ns ds t0 (some (.sh, .int (0 + (k : Int)))) x5 x6 x7 x8) =
      .ok (.nx (eE ns ds t0 (some (.sh, .int (0 + (k : Int)))) (some (.sh, .int a)) (some (.sh, .str (st [c]))) x7 x8)) := by
    have r1 : (aConsK (eIx (eVar 2) (eCall F_law_pick (aCons (eVar 0) (aCons (eBin addD (eC (.int 210)) (eVar 4)) (aCons (eC (.int 12)) aNil))))) aNil) (eE ns ds t0 (some (.sh, .int (0 + (k : Int)))) x5 x6 x7 x8) = .ok [(.sh, .str (st [c]))] := by
      unfold aConsK
      rw [ec]
      rfl
    have r2 : (aConsK (eCall F_law_pick (aCons (eVar 0) (aCons (eBin addD (eC (.int 200)) (eVar 4)) (aCons (eBin addD (eB lenD (aCons (eVar 3) aNil)) (eC (.int 1))) aNil)))) (aConsK (eIx (eVar 2) (eCall F_law_pick (aCons (eVar 0) (aCons (eBin addD (eC (.int 210)) (eVar 4)) (aCons (eC (.int 12)) aNil))))) aNil)) (eE ns ds t0 (some (.sh, .int (0 + (k : Int)))) x5 x6 x7 x8) = .ok [(.sh, .int a), (.sh, .str (st [c]))] := by
      show ((eCall F_law_pick _ _).bind _) = _
      rw [ea]
      show ((aConsK _ _ _).bind _) = _
      rw [r1]
      rfl
    unfold mPars
    rw [r2]
    rfl
  generalize eE5 : eE ns ds t0 (some (.sh, .int (0 + (k : Int)))) (some (.sh, .int a)) (some (.sh, .str (st [c]))) x7 x8 = ev at p1
  have v3 : (eVar 3) ev = .ok (.sh, .str t0) := by rw [← eE5]; rfl
  have v6 : (eVar 6) ev = .ok (.sh, .str (st [c])) := by rw [← eE5]; rfl
  have o5 : (oSome (eVar 5)) ev = .ok (some a) := by rw [← eE5]; rfl
  have o6 : (oSome (eBin addD (eVar 5) (eC (.int 1)))) ev = .ok (some (a + 1)) := by rw [← eE5]; rfl
  have l0 : t0.length ≤ 1000000 := by omega
  have s1 := sl_ok l0 v3 (p := oNone) rfl o5
  have s2 := sl_ok l0 v3 (q := oNone) o6 rfl
  have s3 := sl_ok l0 v3 (q := oNone) o5 rfl
  have m1 := h0.cut none (some a)
  have m2 := h0.cut (some (a + 1)) none
  have m3 := h0.cut (some a) none
  have m4 := m1.app h1
  have t1 := add_ok s1 s2 (by have := m1.1; have := m2.1; omega)
  have t2 := add_ok s1 v6 (by have := m1.1; have := h1.1; omega)
  have t3 := add_ok t2 s3 (by have := m4.1; have := m3.1; omega)
  have t4 := add_ok t2 s2 (by have := m4.1; have := m2.1; omega)
  have et : (eIt eTs) ev = .ok (.sh, [cutS t0 none (some a) ++ cutS t0 (some (a + 1)) none, cutS t0 none (some a) ++ st [c] ++ cutS t0 (some a) none, cutS t0 none (some a) ++ st [c] ++ cutS t0 (some (a + 1)) none].map Dt.str) := by
    have e : eTs ev = .ok (.sh, .tup ([cutS t0 none (some a) ++ cutS t0 (some (a + 1)) none, cutS t0 none (some a) ++ st [c] ++ cutS t0 (some a) none, cutS t0 none (some a) ++ st [c] ++ cutS t0 (some (a + 1)) none].map Dt.str)) := eTup_ok (aCons_ok t1 (aCons_ok t3 (aCons_ok t4 rfl))) rfl
    unfold eIt
    rw [e]
    rfl
  obtain ⟨x7', x8', g⟩ := texts_loop (ns := ns) (ds := ds) (t0 := t0) (x4 := some (.sh, .int (0 + (k : Int)))) (x5 := some (.sh, .int a)) (x6 := some (.sh, .str (st [c]))) [cutS t0 none (some a) ++ cutS t0 (some (a + 1)) none, cutS t0 none (some a) ++ st [c] ++ cutS t0 (some a) none, cutS t0 none (some a) ++ st [c] ++ cutS t0 (some (a + 1)) none] x7 x8 fun t ht => by
    simp only [List.mem_cons, List.not_mem_nil, or_false] at ht
    rcases ht with rfl | rfl | rfl
    · exact (m1.app m2).txo (by decide)
    · exact (m4.app m3).txo (by decide)
    · exact (m4.app m2).txo (by decide)
  refine ⟨some (.sh, .int a), some (.sh, .str (st [c])), x7', x8', (mSeq_ok p1).trans ?_⟩
  unfold mFor
  rw [et, Mo.bind_ok, if_neg (fun z => by cases z)]
  rw [eE5] at g
  exact g
theorem places_loop {ns : List Int} (hl : ns.length ≤ 63) {ds : List Dt} {t0 : Str} (h0 : Sm 224 t0) : ∀ (ks : List Nat) (x4 x5 x6 x7 x8 : Option (Fl × Dt)), (∀ k ∈ ks, k < 6) →
    ∃ x4' x5' x6' x7' x8', fLoop (pName 4) mPl (ks.map fun (i : Nat) => Dt.int (0 + (i : Int))) (eE ns ds t0 x4 x5 x6 x7 x8) = .ok (.nx (eE ns ds t0 x4' x5' x6' x7' x8'))
  | [], x4, x5, x6, x7, x8, _ => ⟨x4, x5, x6, x7, x8, rfl⟩
  | k :: ks, x4, x5, x6, x7, x8, h => by
    obtain ⟨y5, y6, y7, y8, g⟩ := one_place (ds := ds) (x5 := x5) (x6 := x6) (x7 := x7) (x8 := x8) hl h0 (h k (.head _))
    obtain ⟨x4', x5', x6', x7', x8', g2⟩ := places_loop (ds := ds) hl h0 ks (some (.sh, .int (0 + (k : Int)))) y5 y6 y7 y8 fun k hk => h k (.tail _ hk)
    refine ⟨x4', x5', x6', x7', x8', ?_⟩
    rw [List.map_cons, fLoop]
    show ((mPl (eE ns ds t0 (some (.sh, .int (0 + (k : Int)))) x5 x6 x7 x8)).bind _) = _
    rw [g]
    exact g2
noncomputable abbrev mRst : Sv := (mSeq (mSet 9 (eLst (aCons (eTup (aCons (eC (.str " a")) (aCons (eC (.int 0)) aNil))) (aCons (eTup (aCons (eC (.str "a ")) (aCons (eC (.int 1)) aNil))) (aCons (eTup (aCons (eC (.str "a  b")) (aCons (eC (.int 1)) aNil))) (aCons (eTup (aCons (eC (.str "abcdefg")) (aCons (eC (.int 0)) aNil))) (aCons (eTup (aCons (eC (.str "(a)")) (aCons (eC (.int 3)) aNil))) (aCons (eTup (aCons (eC (.str "(a)0")) (aCons (eC (.int 3)) aNil))) (aCons (eTup (aCons (eC (.str "()2")) (aCons (eC (.int 1)) aNil))) (aCons (eTup (aCons (eC (.str "a)")) (aCons (eC (.int 1)) aNil))) aNil)))))))))) (mSeq (mExtend 9 (eLst (aCons (eTup (aCons (eC (.str "a A")) (aCons (eC (.int 2)) aNil))) (aCons (eTup (aCons (eC (.str "(a")) (aCons (eC (.int 2)) aNil))) (aCons (eTup (aCons (eC (.str "(a )2")) (aCons (eC (.int 2)) aNil))) (aCons (eTup (aCons (eC (.str "((((a)2)2)2)2 b c(")) (aCons (eC (.int 17)) aNil))) (aCons (eTup (aCons (eC (.str "(((((a)2)2)2)2)2")) (aCons (eC (.int 4)) aNil))) aNil))))))) (mSeq (mExtend 9 (eLst (aCons (eTup (aCons (eC (.str "a b(c)2")) (aCons (eC (.int 3)) aNil))) (aCons (eTup (aCons (eC (.str "(a)2b")) (aCons (eC (.int 4)) aNil))) (aCons (eTup (aCons (eC (.str "(a)+ ")) (aCons (eC (.int 4)) aNil))) (aCons (eTup (aCons (eC (.str "1")) (aCons (eC (.int 0)) aNil))) (aCons (eTup (aCons (eC (.str "(")) (aCons (eC (.int 1)) aNil))) (aCons (eTup (aCons (eC (.str "(a)12")) (aCons (eC (.int 4)) aNil))) aNil)))))))) (mSeq (mAppend 9 (eTup (aCons (eC (.str "fold dead spreadspread")) (aCons (eC (.int 10)) aNil)))) (mSeq (mFrz 9 (mFor (eIt (eVar 9)) (pTup 2 (pCons (pName 7) (pCons (pName 5) pNil))) (mIf (bCmp neD (eLawAt (eCall F_read_line (aCons (eVar 7) aNil))) (eVar 5)) (mRet (eC (.bl false))) mNil))) (mSeq (mFor (eIt (eLst (aCons (eC .non) (aCons (eC (.bl true)) (aCons (eC (.int 3)) (aCons (eLst (aCons (eC (.str "a")) aNil)) (aCons (eTup aNil) aNil))))))) (pName 10) (mIf (bCmp neD (eLawAt (eCall F_read_line (aCons (eVar 10) aNil))) (eC (.int 0))) (mRet (eC (.bl false))) mNil)) (mSeq (mSet 11 (eLst (aCons (eC .non) (aCons (eC (.str "a")) (aCons (eC (.int 3)) (aCons (eTup (aCons (eC (.str "a")) aNil)) (aCons (eLst (aCons (eC (.int 3)) aNil)) (aCons (eLst (aCons (eC (.str "A")) aNil)) (aCons (eLst (aCons (eC (.str "abcdefg")) aNil)) (aCons (eLst (aCons (eTup (aCons (eC (.int 0)) (aCons (eTup (aCons (eC (.str "a")) aNil)) aNil))) aNil)) (aCons (eLst (aCons (eTup (aCons (eC (.int 10)) (aCons (eTup (aCons (eC (.str "a")) aNil)) aNil))) aNil)) (aCons (eLst (aCons (eTup (aCons (eC (.int 2)) (aCons (eTup aNil) aNil))) aNil)) (aCons (eLst (aCons (eTup (aCons (eC (.int 2)) (aCons (eC (.str "a")) aNil))) aNil)) aNil))))))))))))) (mSeq (mFor (eIt (eBin addD (eVar 11) (eLst (aCons (eLst (aCons (eTup (aCons (eC (.str "a")) aNil)) aNil)) aNil)))) (pName 10) (mIf (bCmp neD (eLawAt (eCall F_line_text (aCons (eVar 10) aNil))) (eC (.int 0))) (mRet (eC (.bl false))) mNil)) (mSeq (mIf (bCmp neD (eLawAt (eCall F_line_text (aCons (eLst (aCons (eTup (aCons (eC (.bl true)) (aCons (eTup (aCons (eC (.str "a")) aNil)) aNil))) aNil)) aNil))) (eC (.int 0))) (mRet (eC (.bl false))) mNil) (mRet (eCmp eqD (eCall F_read_line (aCons (eC (.str "((((a)2)3)+)4")) aNil)) (eLst (aCons (eTup (aCons (eC (.int 4)) (aCons (eTup (aCons (eTup (aCons (eC .non) (aCons (eTup (aCons (eTup (aCons (eC (.int 3)) (aCons (eTup (aCons (eTup (aCons (eC (.int 2)) (aCons (eTup (aCons (eC (.str "a")) aNil)) aNil))) aNil)) aNil))) aNil)) aNil))) aNil)) aNil))) aNil)))))))))))))
theorem rest_ok (ns : List Int) (ds : List Dt) (t0 : Str) (x4 x5 x6 x7 x8 : Option (Fl × Dt)) : (mRst (eE ns ds t0 x4 x5 x6 x7 x8)).bind endM = .ok (.sh, .bl true) := by kernel_rfl
/-- the law, on data -/
theorem law_data (ns : List Int) (hl : ns.length ≤ 63) : runMo 12 m_law [.scr ns] = .ok (.sh, .bl true) := by
  obtain ⟨ds, w, g, hw⟩ := items_drawn hl 2 0 0 rfl (by decide) (by decide) (by decide)
  have hs := hw.txo
  have e1 : (eCall F_law_items2 (aCons (eVar 0) (aCons (eC (.int 0)) (aCons (eC (.int 0)) aNil)))) (startE 12 [.scr ns]) = .ok (.nw, .lst ds) := eCall_ok (rvs := [(.sh, .scr ns), (.sh, .int 0), (.sh, .int 0)]) rfl (by rw [L2k]; exact g) (.inl rfl)
  have s1 : (mPars [1, 2] (aConsK (eCall F_law_items2 (aCons (eVar 0) (aCons (eC (.int 0)) (aCons (eC (.int 0)) aNil)))) (aConsK (eC (.str "abz ()+190A-")) aNil))) (startE 12 [.scr ns]) = .ok (.nx [some (.sh, .scr ns), some (.ow, .lst ds), some (.sh, .str sgs), none, none, none, none, none, none, none, none, none]) := by
    unfold mPars
    have r : (aConsK (eCall F_law_items2 (aCons (eVar 0) (aCons (eC (.int 0)) (aCons (eC (.int 0)) aNil)))) (aConsK (eC (.str "abz ()+190A-")) aNil)) (startE 12 [.scr ns]) = .ok [(.nw, .lst ds), (.sh, .str sgs)] := by
      show ((eCall F_law_items2 _ _).bind _) = _
      rw [e1]
      rfl
    rw [r]
    rfl
  have wl : F_law_line_of2 [.lst ds] = .ok (.sh, .str (st w)) := by rw [Y2]; exact (line_of 2 hw.1 (Nat.le_trans hs.1 (by decide))).1
  have e2 : (eCall F_law_line_of2 (aCons (eVar 1) aNil)) [some (.sh, .scr ns), some (.ow, .lst ds), some (.sh, .str sgs), none, none, none, none, none, none, none, none, none] = .ok (.sh, .str (st w)) := eCall_ok (rvs := [(.al, .lst ds)]) rfl wl (.inr rfl)
  obtain ⟨x4, x5, x6, x7, x8, g2⟩ := places_loop (ds := ds) (t0 := st w) hl hs (List.range 6) none none none none none fun k hk => List.mem_range.mp hk
  have s3 : (mFor (eWv rngD1 (aCons (eC (.int 6)) aNil)) (pName 4) mPl) (eE ns ds (st w) none none none none none) = .ok (.nx (eE ns ds (st w) x4 x5 x6 x7 x8)) := by
    unfold mFor
    rw [show (eWv rngD1 (aCons (eC (.int 6)) aNil)) (eE ns ds (st w) none none none none none) = .ok (.sh, rng 0 6) from rfl, Mo.bind_ok, if_neg (fun z => by cases z)]
    exact g2
  have all : m_law (startE 12 [.scr ns]) = mRst (eE ns ds (st w) x4 x5 x6 x7 x8) := (mSeq_ok s1).trans ((mSeq_ok (mSet_ok e2 rfl)).trans (mSeq_ok s3))
  show ((m_law (startE 12 [.scr ns])).bind endM) = _
  rw [all]
  exact rest_ok ns ds (st w) x4 x5 x6 x7 x8
end Pm.I
set_option maxHeartbeats 4000000
namespace Pm
open PySem PySem.Spec PyProof.Rows L2 GxR GX
variable [LamTab]
variable {c : Ct}
def spLaw (c : Ct) : Sp := fun vs H Q _ => ∃ a : Addr, vs = [.ref a] ∧ ScrAt c H a ∧ Tabs c.ts H ∧ ∀ H', Q (.bl true) H'
structure LawIn (c : Ct) : Prop where
  B : BI c
  O_law_items2 : FD c "_law_items" 5 ["_law_script", "_law_at_here", "_law_deep"] F_law_items2
  O_law_line_of2 : FD c "_law_line_of" 4 ["_law_items_here"] F_law_line_of2
  O_law_pick : FD c "_law_pick" 2 ["_law_script", "_law_k", "_law_many"] F_law_pick
  EA : ErrA c
  DT : Df c "_law_at" s_law_at
  HT : ∃ P, P ∈ c.ts
  O_read_line : FD c "read_line" 18 ["text"] F_read_line
  J : BJ c
  O_line_text : FD c "line_text" 19 ["items"] F_line_text
theorem ok_law {f : Addr} {fd : FuncData} {cd PL : Addr} (D : DefAt c "law" s_law [] f fd cd) (R : LawIn c) (TB : LamX.TabB c.base c.mg cd PL) (hLP : LamTab.tab PL = some ((envOfC "law" (defScope s_law) 0 0 (.ref 0)).qual ++ "<lambda>")) : FnOk c.P c.w c.K c.mg c.base CX0 22 f fd ["_law_script"] (spLaw c) := by
  refine law_ok D R.B R.O_law_items2 R.O_law_line_of2 R.O_law_pick R.EA R.DT R.HT TB hLP R.O_read_line R.J R.O_line_text (fun vs H Q E h => ?_) I.law_data
  obtain ⟨a, e, ⟨ss, h1, h2⟩, t, q⟩ := h
  exact ⟨a, ss, e, h1, h2, t, q⟩
theorem kd_times (h : numsB c.K "TIMES" timesL = true) (hk : keysB c.K "TIMES" (timesL.map (·.1)) = true) {es : Array DictEntry} {n : Nat} (D : KDict c.K c.w (He.ga c.K "TIMES") es n) (m1 : c.mg "TIMES" = some (.ref (He.ga c.K "TIMES"))) : KD c "TIMES" t_TIMES := by
  refine ⟨_, es, n, m1, D, fun z => ?_⟩
  have look : ∀ l : List (Str × Option Int), (l.map fun p => (p.1, numD p.2)).lookup z = (l.lookup z).map numD := by
    intro l
    induction l with
    | nil => rfl
    | cons p l ih =>
      rw [List.map_cons, List.lookup_cons, List.lookup_cons]
      cases z == p.1 with
      | true => rfl
      | false => exact ih
  have et : t_TIMES = timesL.map fun p => (p.1, numD p.2) := rfl
  rw [et, look]
  cases e : timesL.lookup z with
  | none =>
    refine keysB_ok hk fun hz => ?_
    obtain ⟨p, hp, rfl⟩ := List.mem_map.mp hz
    have q := List.lookup_eq_none_iff.mp e p hp
    simp at q
  | some y =>
    obtain ⟨v, ⟨es2, n2, u, _, _, h4, h5⟩, h6⟩ := numsB_ok h D (lookup_in e)
    exact ⟨u, v, h4, h5, h6⟩
end Pm
set_option maxHeartbeats 4000000
namespace Pm
open PySem PySem.Spec PyProof.Rows L2 GxR GX
variable [LamTab] in
theorem law_in {c : Ct} {h : Heap} (hP : c.P = PySem.Challenge.rw_passmill_k26_lines_refused.prog) (hi : iniW c.K = iniV) (X : c.K.In h) (G : h.Ns mainGlobals c.mg) (S : He.SaysX fas fns tabs0 tfs fmBL c.w h c.K) (T : ∀ p ∈ tfs0, TabB c.base c.mg (He.cT c.K p).1 (He.cT c.K p).2 ∧ (He.cT c.K p).2 ∈ c.ts) : LawIn c := by
  have D := S.t.d
  have gl := fun {x : Str} (e : (He.Fa.glo x).ok c.K = true) => He.glo_ok X G e
  have fr := fun {x : Str} (e : (He.Fa.free x).ok c.K = true) => He.free_ok X G e
  have hM0 : fm26 c.K = true := (He.ba S.more).1
  obtain ⟨es, n, KDa⟩ := S.t.tab 0 (t := tabD0) rfl
  have T_TIMES : KD c "TIMES" t_TIMES := kd_times (He.ba (He.ba hM0).2).1 (He.ba (He.ba hM0).2).2 KDa (gl (D.fact 21 (f := .glo "TIMES") rfl))
  have T1_TIMES := T_TIMES.one
  have BB : BI c := ⟨(fr (D.fact 23 (f := .free "len") rfl)), (fr (D.fact 38 (f := .free "sorted") rfl)), (fr (D.fact 31 (f := .free "set") rfl)), (fr (D.fact 29 (f := .free "tuple") rfl)), (fr (D.fact 30 (f := .free "list") rfl)), (fr (D.fact 37 (f := .free "dict") rfl)), (fr (D.fact 33 (f := .free "range") rfl)), (fr (D.fact 32 (f := .free "zip") rfl)), (fr (D.fact 40 (f := .free "reversed") rfl)), (fr (D.fact 39 (f := .free "any") rfl)), (fr (D.fact 24 (f := .free "all") rfl)), (fr (D.fact 34 (f := .free "max") rfl))⟩
  have J : BJ c := ⟨(fr (D.fact 25 (f := .free "isinstance") rfl)), (fr (D.fact 28 (f := .free "str") rfl)), (fr (D.fact 27 (f := .free "int") rfl)), (fr (D.fact 26 (f := .free "bool") rfl))⟩
  have G_LETTERS : Glob c "LETTERS" k_LETTERS := glob_str (He.str_ok X G (D.fact 43 (f := .str "LETTERS" "abcdefghijklmnopqrstuvwxyz") rfl))
  have G_LONGEST_PASS_NAME : Glob c "LONGEST_PASS_NAME" k_LONGEST_PASS_NAME := glob_int (He.int_ok X G (D.fact 44 (f := .int "LONGEST_PASS_NAME" 6) rfl))
  have G_DEEPEST : Glob c "DEEPEST" k_DEEPEST := glob_int (He.int_ok X G (D.fact 45 (f := .int "DEEPEST" 4) rfl))
  have R_NoLine : ErrI c "NoLine" 1 := errI_of (by rw [hP]; exact (He.ba hM0).1) hi (gl (D.fact 22 (f := .glo "NoLine") rfl)) (fr (D.fact 42 (f := .free "super") rfl)) (by rw [hP]; kernel_rfl)
  have EA : ErrA c := errA_of (He.ba hM0).1 (gl (D.fact 22 (f := .glo "NoLine") rfl))
  have DT : Df c "_law_at" s_law_at := (df_of (D.def_ 0 (d := dG "_law_at" s_law_at) rfl) (gl (D.fact 0 (f := .glo "_law_at") rfl)))
  have HT : ∃ P, P ∈ c.ts := ⟨_, (T _ (.head _)).2⟩
  have O_is_whole := fd_is_whole (df_of (D.def_ 1 (d := dG "is_whole" s_is_whole) rfl) (gl (D.fact 1 (f := .glo "is_whole") rfl))) BB J
  have O_is_word := fd_is_word (tf_of (D.def_ 2 (d := dG "is_word" s_is_word) rfl) (gl (D.fact 2 (f := .glo "is_word") rfl)) (T _ (.head _)).1 (T _ (.head _)).2) BB J G_LETTERS
  have O_is_pass_name := fd_is_pass_name (df_of (D.def_ 3 (d := dG "is_pass_name" s_is_pass_name) rfl) (gl (D.fact 3 (f := .glo "is_pass_name") rfl))) BB O_is_word G_LONGEST_PASS_NAME
  have O_sign_at := fd_sign_at (df_of (D.def_ 4 (d := dG "sign_at" s_sign_at) rfl) (gl (D.fact 4 (f := .glo "sign_at") rfl))) BB 
  have O_leads_on := fd_leads_on (df_of (D.def_ 5 (d := dG "leads_on" s_leads_on) rfl) (gl (D.fact 5 (f := .glo "leads_on") rfl))) BB O_sign_at
  have O_name_from := fd_name_from (df_of (D.def_ 6 (d := dG "name_from" s_name_from) rfl) (gl (D.fact 6 (f := .glo "name_from") rfl))) BB G_LETTERS G_LONGEST_PASS_NAME R_NoLine
  have O_bracket_from0 := fd_bracket_from0 (df_of (D.def_ 7 (d := dG "bracket_from" s_bracket_from) rfl) (gl (D.fact 7 (f := .glo "bracket_from") rfl))) BB G_DEEPEST R_NoLine O_sign_at T_TIMES T1_TIMES
  have O_item_from0 := fd_item_from0 (df_of (D.def_ 8 (d := dG "item_from" s_item_from) rfl) (gl (D.fact 8 (f := .glo "item_from") rfl))) BB O_sign_at O_bracket_from0 O_name_from
  have O_items_from0 := fd_items_from0 (df_of (D.def_ 9 (d := dG "items_from" s_items_from) rfl) (gl (D.fact 9 (f := .glo "items_from") rfl))) BB O_item_from0 O_leads_on
  have O_bracket_from1 := fd_bracket_from1 (df_of (D.def_ 7 (d := dG "bracket_from" s_bracket_from) rfl) (gl (D.fact 7 (f := .glo "bracket_from") rfl))) BB G_DEEPEST R_NoLine O_items_from0 O_sign_at T_TIMES T1_TIMES
  have O_item_from1 := fd_item_from1 (df_of (D.def_ 8 (d := dG "item_from" s_item_from) rfl) (gl (D.fact 8 (f := .glo "item_from") rfl))) BB O_sign_at O_bracket_from1 O_name_from
  have O_items_from1 := fd_items_from1 (df_of (D.def_ 9 (d := dG "items_from" s_items_from) rfl) (gl (D.fact 9 (f := .glo "items_from") rfl))) BB O_item_from1 O_leads_on
  have O_bracket_from2 := fd_bracket_from2 (df_of (D.def_ 7 (d := dG "bracket_from" s_bracket_from) rfl) (gl (D.fact 7 (f := .glo "bracket_from") rfl))) BB G_DEEPEST R_NoLine O_items_from1 O_sign_at T_TIMES T1_TIMES
  have O_item_from2 := fd_item_from2 (df_of (D.def_ 8 (d := dG "item_from" s_item_from) rfl) (gl (D.fact 8 (f := .glo "item_from") rfl))) BB O_sign_at O_bracket_from2 O_name_from
  have O_items_from2 := fd_items_from2 (df_of (D.def_ 9 (d := dG "items_from" s_items_from) rfl) (gl (D.fact 9 (f := .glo "items_from") rfl))) BB O_item_from2 O_leads_on
  have O_bracket_from3 := fd_bracket_from3 (df_of (D.def_ 7 (d := dG "bracket_from" s_bracket_from) rfl) (gl (D.fact 7 (f := .glo "bracket_from") rfl))) BB G_DEEPEST R_NoLine O_items_from2 O_sign_at T_TIMES T1_TIMES
  have O_item_from3 := fd_item_from3 (df_of (D.def_ 8 (d := dG "item_from" s_item_from) rfl) (gl (D.fact 8 (f := .glo "item_from") rfl))) BB O_sign_at O_bracket_from3 O_name_from
  have O_items_from3 := fd_items_from3 (df_of (D.def_ 9 (d := dG "items_from" s_items_from) rfl) (gl (D.fact 9 (f := .glo "items_from") rfl))) BB O_item_from3 O_leads_on
  have O_bracket_from4 := fd_bracket_from4 (df_of (D.def_ 7 (d := dG "bracket_from" s_bracket_from) rfl) (gl (D.fact 7 (f := .glo "bracket_from") rfl))) BB G_DEEPEST R_NoLine O_items_from3 O_sign_at T_TIMES T1_TIMES
  have O_item_from4 := fd_item_from4 (df_of (D.def_ 8 (d := dG "item_from" s_item_from) rfl) (gl (D.fact 8 (f := .glo "item_from") rfl))) BB O_sign_at O_bracket_from4 O_name_from
  have O_items_from4 := fd_items_from4 (df_of (D.def_ 9 (d := dG "items_from" s_items_from) rfl) (gl (D.fact 9 (f := .glo "items_from") rfl))) BB O_item_from4 O_leads_on
  have O_read_line := fd_read_line (df_of (D.def_ 10 (d := dG "read_line" s_read_line) rfl) (gl (D.fact 10 (f := .glo "read_line") rfl))) BB J R_NoLine O_items_from4
  have O_is_item0 := fd_is_item0 (df_of (D.def_ 11 (d := dG "is_item" s_is_item) rfl) (gl (D.fact 11 (f := .glo "is_item") rfl))) BB J O_is_pass_name G_DEEPEST O_is_whole
  have O_are_items0 := fd_are_items0 (tf_of (D.def_ 12 (d := dG "are_items" s_are_items) rfl) (gl (D.fact 12 (f := .glo "are_items") rfl)) (T _ (.tail _ (.head _))).1 (T _ (.tail _ (.head _))).2) BB O_is_item0
  have O_is_item1 := fd_is_item1 (df_of (D.def_ 11 (d := dG "is_item" s_is_item) rfl) (gl (D.fact 11 (f := .glo "is_item") rfl))) BB J O_is_pass_name G_DEEPEST O_is_whole O_are_items0
  have O_are_items1 := fd_are_items1 (tf_of (D.def_ 12 (d := dG "are_items" s_are_items) rfl) (gl (D.fact 12 (f := .glo "are_items") rfl)) (T _ (.tail _ (.head _))).1 (T _ (.tail _ (.head _))).2) BB O_is_item1
  have O_is_item2 := fd_is_item2 (df_of (D.def_ 11 (d := dG "is_item" s_is_item) rfl) (gl (D.fact 11 (f := .glo "is_item") rfl))) BB J O_is_pass_name G_DEEPEST O_is_whole O_are_items1
  have O_are_items2 := fd_are_items2 (tf_of (D.def_ 12 (d := dG "are_items" s_are_items) rfl) (gl (D.fact 12 (f := .glo "are_items") rfl)) (T _ (.tail _ (.head _))).1 (T _ (.tail _ (.head _))).2) BB O_is_item2
  have O_is_item3 := fd_is_item3 (df_of (D.def_ 11 (d := dG "is_item" s_is_item) rfl) (gl (D.fact 11 (f := .glo "is_item") rfl))) BB J O_is_pass_name G_DEEPEST O_is_whole O_are_items2
  have O_are_items3 := fd_are_items3 (tf_of (D.def_ 12 (d := dG "are_items" s_are_items) rfl) (gl (D.fact 12 (f := .glo "are_items") rfl)) (T _ (.tail _ (.head _))).1 (T _ (.tail _ (.head _))).2) BB O_is_item3
  have O_is_item4 := fd_is_item4 (df_of (D.def_ 11 (d := dG "is_item" s_is_item) rfl) (gl (D.fact 11 (f := .glo "is_item") rfl))) BB J O_is_pass_name G_DEEPEST O_is_whole O_are_items3
  have O_are_items4 := fd_are_items4 (tf_of (D.def_ 12 (d := dG "are_items" s_are_items) rfl) (gl (D.fact 12 (f := .glo "are_items") rfl)) (T _ (.tail _ (.head _))).1 (T _ (.tail _ (.head _))).2) BB O_is_item4
  have O_item_text0 := fd_item_text0 (df_of (D.def_ 13 (d := dG "item_text" s_item_text) rfl) (gl (D.fact 13 (f := .glo "item_text") rfl))) BB J
  have O_text_of0 := fd_text_of0 (tf_of (D.def_ 14 (d := dG "text_of" s_text_of) rfl) (gl (D.fact 14 (f := .glo "text_of") rfl)) (T _ (.tail _ (.tail _ (.head _)))).1 (T _ (.tail _ (.tail _ (.head _)))).2) BB O_item_text0
  have O_item_text1 := fd_item_text1 (df_of (D.def_ 13 (d := dG "item_text" s_item_text) rfl) (gl (D.fact 13 (f := .glo "item_text") rfl))) BB J O_text_of0
  have O_text_of1 := fd_text_of1 (tf_of (D.def_ 14 (d := dG "text_of" s_text_of) rfl) (gl (D.fact 14 (f := .glo "text_of") rfl)) (T _ (.tail _ (.tail _ (.head _)))).1 (T _ (.tail _ (.tail _ (.head _)))).2) BB O_item_text1
  have O_item_text2 := fd_item_text2 (df_of (D.def_ 13 (d := dG "item_text" s_item_text) rfl) (gl (D.fact 13 (f := .glo "item_text") rfl))) BB J O_text_of1
  have O_text_of2 := fd_text_of2 (tf_of (D.def_ 14 (d := dG "text_of" s_text_of) rfl) (gl (D.fact 14 (f := .glo "text_of") rfl)) (T _ (.tail _ (.tail _ (.head _)))).1 (T _ (.tail _ (.tail _ (.head _)))).2) BB O_item_text2
  have O_item_text3 := fd_item_text3 (df_of (D.def_ 13 (d := dG "item_text" s_item_text) rfl) (gl (D.fact 13 (f := .glo "item_text") rfl))) BB J O_text_of2
  have O_text_of3 := fd_text_of3 (tf_of (D.def_ 14 (d := dG "text_of" s_text_of) rfl) (gl (D.fact 14 (f := .glo "text_of") rfl)) (T _ (.tail _ (.tail _ (.head _)))).1 (T _ (.tail _ (.tail _ (.head _)))).2) BB O_item_text3
  have O_item_text4 := fd_item_text4 (df_of (D.def_ 13 (d := dG "item_text" s_item_text) rfl) (gl (D.fact 13 (f := .glo "item_text") rfl))) BB J O_text_of3
  have O_text_of4 := fd_text_of4 (tf_of (D.def_ 14 (d := dG "text_of" s_text_of) rfl) (gl (D.fact 14 (f := .glo "text_of") rfl)) (T _ (.tail _ (.tail _ (.head _)))).1 (T _ (.tail _ (.tail _ (.head _)))).2) BB O_item_text4
  have O_line_text := fd_line_text (df_of (D.def_ 15 (d := dG "line_text" s_line_text) rfl) (gl (D.fact 15 (f := .glo "line_text") rfl))) BB J O_are_items4 R_NoLine O_text_of4
  have O_law_pick := fd_law_pick (df_of (D.def_ 16 (d := dG "_law_pick" s_law_pick) rfl) (gl (D.fact 16 (f := .glo "_law_pick") rfl))) BB 
  have O_law_always := fd_law_always (df_of (D.def_ 17 (d := dG "_law_always" s_law_always) rfl) (gl (D.fact 17 (f := .glo "_law_always") rfl))) BB 
  have O_law_items0 := fd_law_items0 (df_of (D.def_ 18 (d := dG "_law_items" s_law_items) rfl) (gl (D.fact 18 (f := .glo "_law_items") rfl))) BB O_law_pick O_law_always
  have O_law_items1 := fd_law_items1 (df_of (D.def_ 18 (d := dG "_law_items" s_law_items) rfl) (gl (D.fact 18 (f := .glo "_law_items") rfl))) BB O_law_pick O_law_items0 O_law_always
  have O_law_items2 := fd_law_items2 (df_of (D.def_ 18 (d := dG "_law_items" s_law_items) rfl) (gl (D.fact 18 (f := .glo "_law_items") rfl))) BB O_law_pick O_law_items1 O_law_always
  have O_law_line_of0 := fd_law_line_of0 (df_of (D.def_ 19 (d := dG "_law_line_of" s_law_line_of) rfl) (gl (D.fact 19 (f := .glo "_law_line_of") rfl))) BB J
  have O_law_line_of1 := fd_law_line_of1 (df_of (D.def_ 19 (d := dG "_law_line_of" s_law_line_of) rfl) (gl (D.fact 19 (f := .glo "_law_line_of") rfl))) BB J O_law_line_of0
  have O_law_line_of2 := fd_law_line_of2 (df_of (D.def_ 19 (d := dG "_law_line_of" s_law_line_of) rfl) (gl (D.fact 19 (f := .glo "_law_line_of") rfl))) BB J O_law_line_of1
  exact ⟨BB, O_law_items2, O_law_line_of2, O_law_pick, EA, DT, HT, O_read_line, J, O_line_text⟩
theorem tabN_nilM [LamTab] {H : Hp} {p : Addr} (n : LamTab.tab p = none) (hP : ∀ P q, LamTab.tab P = some q → H P = some (.tbl #[])) (h : H p = some (.tbl #[])) : TabN H p := ⟨#[], h, ⟨True.intro, n, fun P q e => ⟨#[], hP P q e, True.intro, fun pos cv e => by
    have z : codeAmong pos [] = some cv := e
    simp [codeAmong] at z⟩⟩, fun pos cv e => by
  have z : codeAmong pos [] = some cv := e
  simp [codeAmong] at z⟩
theorem lookup_nd {l : List (Addr × Str)} : (l.map (·.1)).Nodup → ∀ {a : Addr} {q : Str}, (a, q) ∈ l → l.lookup a = some q := by
  induction l with
  | nil => intro _ a q h; cases h
  | cons p l ih =>
    intro nd a q h
    rw [List.map_cons, List.nodup_cons] at nd
    rw [List.lookup_cons]
    rcases List.mem_cons.mp h with rfl | h
    · simp
    · have ne : (a == p.1) = false := by
        rw [beq_eq_false_iff_ne]
        intro z
        exact nd.1 (List.mem_map.mpr ⟨(a, q), h, z⟩)
      rw [ne]
      exact ih nd.2 h
theorem lookup_some {l : List (Addr × Str)} {a : Addr} {q : Str} (h : l.lookup a = some q) : (a, q) ∈ l := by
  induction l with
  | nil => cases h
  | cons p l ih =>
    rw [List.lookup_cons] at h
    cases e : a == p.1 with
    | true =>
      rw [e] at h
      cases h
      rw [eq_of_beq e]
      exact .head _
    | false =>
      rw [e] at h
      exact .tail _ (ih h)
theorem law_at {w : World} {K : PySem.W.Frag} {h : Heap} {mg : Str → Option Value} {fa : Addr} (X : K.In h) (G : h.Ns mainGlobals mg) (hfa : mg ("law" : Str) = some (.ref fa)) (S : He.SaysX fas fns tabs0 tfs fmBL w h K) (hi : iniW K = iniV) :
    LamX.LawAtS PySem.Challenge.rw_passmill_k26_lines_refused w K CX0 22 63 "_law_script" mg fa h := by
  have D := S.t.d
  have hg := He.glo_ok X G (D.fact 20 (f := .glo "law") rfl)
  have e := hfa.symm.trans hg
  cases e
  let ts : List Addr := tfs0.map fun p => (He.cT K p).2
  let lamL : List (Addr × Str) := [((He.cT K ("law", none)).2, (envOfC "law" (defScope s_law) 0 0 (.ref 0)).qual ++ "<lambda>")]
  have hml : lamL.map (·.1) = tfsL.map fun p => (He.cT K p).2 := rfl
  obtain ⟨nd0, dj0⟩ := He.ba (He.ba S.more).2
  have nd : (lamL.map (·.1)).Nodup := by rw [hml]; exact of_decide_eq_true nd0
  have h0 : ∀ p ∈ tfs0, p ∈ tfs := fun p hp => List.mem_append_left _ hp
  have h1 : ∀ p ∈ tfsL, p ∈ tfs := fun p hp => List.mem_append_right _ hp
  have nP : ∀ p ∈ tfs0, lamL.lookup (He.cT K p).2 = none := fun p hp => by
    cases e : lamL.lookup (He.cT K p).2 with
    | none => rfl
    | some q =>
      have m : (He.cT K p).2 ∈ tfsL.map fun p => (He.cT K p).2 := by
        rw [← hml]
        exact List.mem_map.mpr ⟨_, lookup_some e, rfl⟩
      have z := List.all_eq_true.mp dj0 p hp
      rw [Bool.not_eq_true', Bool.eq_false_iff] at z
      exact absurd (List.contains_iff_mem.mpr m) z
  obtain ⟨fd, F⟩ := D.def_ 20 (d := dG "law" s_law) rfl
  have b := FunD.bindsA (ps := ["_law_script"]) F fun _ _ _ _ _ _ us hl => match us, hl with | [_], _ => rfl
  letI : LamTab := ⟨fun a => lamL.lookup a⟩
  refine ⟨fd, tfs.map (He.cT K), spLaw ⟨PySem.Challenge.rw_passmill_k26_lines_refused.prog, w, K, mg, h, ts⟩, fun p hp => ?_, fun p hp => ?_, fun p hp => ?_, fun s u => b s [u] rfl, fun H a ns hl _ hH hS => ?_, fun base KB NB TB => ?_⟩
  · obtain ⟨q, hq, rfl⟩ := List.mem_map.mp hp
    exact S.empty q hq
  · obtain ⟨q, hq, rfl⟩ := List.mem_map.mp hp
    exact S.out q hq
  · obtain ⟨q, hq, rfl⟩ := List.mem_map.mp hp
    exact PySem.W.codeHd_of_K X (S.hd q hq)
  · refine ⟨a, rfl, ⟨ns, hS, hl⟩, fun p hp => ?_, fun _ => rfl⟩
    obtain ⟨q, hq, rfl⟩ := List.mem_map.mp hp
    refine tabN_nilM (nP q hq) (fun P0 q0 e0 => ?_) (hH _ (List.mem_map.mpr ⟨q, h0 q hq, rfl⟩))
    have m : P0 ∈ tfsL.map fun p => (He.cT K p).2 := by
      rw [← hml]
      exact List.mem_map.mpr ⟨_, lookup_some e0, rfl⟩
    obtain ⟨r, hr, rfl⟩ := List.mem_map.mp m
    exact hH _ (List.mem_map.mpr ⟨r, h1 r hr, rfl⟩)
  · obtain ⟨⟨oc, od, dV, kV, doc, pm, an, cdv, ct, osl, rfl, lk, hcd, hD, hK⟩, kp⟩ := F
    obtain ⟨cd, rfl⟩ := He.codeIn_ref hcd
    have ec : He.codeOf K ("law", none) = cd := He.codeOf_eq (p := ("law", none)) lk rfl
    have L := law_in (c := ⟨PySem.Challenge.rw_passmill_k26_lines_refused.prog, w, K, mg, base, ts⟩) rfl hi X G S (fun p hp => ⟨let z := TB _ (List.mem_map.mpr ⟨p, h0 p hp, rfl⟩); ⟨z.code, z.bm, z.gP⟩, List.mem_map.mpr ⟨p, hp, rfl⟩⟩)
    have zl := TB _ (List.mem_map.mpr ⟨("law", none), h1 _ (.head _), rfl⟩)
    rw [show (He.cT K ("law", none)).1 = cd from ec] at zl
    exact ok_law (c := ⟨PySem.Challenge.rw_passmill_k26_lines_refused.prog, w, K, mg, base, ts⟩) (cd := cd) (PL := (He.cT K ("law", none)).2) ⟨⟨oc, od, dV, kV, doc, pm, an, ct, osl, rfl, lk, hcd, hD, hK⟩, kp, hg⟩ L zl (lookup_nd nd (.head _))
end Pm
open PySem PySem.W PySem.Calls PyProof.Rows
theorem PySem.Challenge.cw_passmill_k26_lines_refused_holds : PySem.Challenge.rw_passmill_k26_lines_refused.Holds := by
  refine HandSHeadRun.hd_holds ?_
  · refine LamX.walk_ofTsE (l := PySem.Challenge.rw_passmill_k26_lines_refused) (n := 63) (k := 22) (x := "_law_script") (CX := fun _ => L2.CX0) rfl (by decide) (by kernel_rfl) ⟨rfl, by decide, by decide⟩ ?F (fun _ _ _ _ _ z => z)
    intro w mg fa h Y G hmg0
    obtain ⟨K, KX, c, ci⟩ := Y
    have hmg : mg ("law" : PySem.Str) = some (.ref fa) := by
      have e : (HandSHeadRun.topDef (OpenLaw.row PySem.Challenge.rw_passmill_k26_lines_refused).prog 30).name = ("law" : PySem.Str) := HandSHeadRun.hd_n
      rw [← e]
      exact hmg0
    exact ⟨K, KX, Pm.law_at KX G hmg c ci⟩
