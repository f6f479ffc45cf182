import PyProof.Rows.All
import Wide.All
import OpenK.AllK
import Wide.FinOn
import HandS.ForMost
import HandS.Evl
import HandS.Deep
import HandS.IsInst
import HandS.Wide
import HandS.NoneIn
import HandS.TupSets
import HandS.TupAny
import HandS.TupLe
import HandS.Defaults
import HandS.Conv
import HandS.Strs
import KE.KDictKeyed
import HandS.Zip
import HandS.Text
import HandS.Exc
import HandS.ExcOwn
import HandS.ExcIs
import HandS.ExcValue
import HandS.WordsExc
import KE.KExcIs
import HandS.Style
import HandS.SortInts
import HandS.Replace
import HandS.HeadHook3
import PyProof.StrBlock2
import HandS.MakeKw
import HandS.TupMul
import HandS.SetFor
import HandS.WrittenGet
import KE.KRevSl
import HandS.Small
import HandS.OwnEq
import KE.KCallOwn
import HandS.WideMore
import HandS.FStr
import PyProof.InstNe
import KE.KExcSuper
import HandS.ExcInit
import HandS.Nested
import HandS.ClsMeth
import HandS.ExcField
import HandS.TryOnly
import HandS.StrMore
import PySem.Challenge.RW_thirtycubes_k27_refusals_made_by_hand
set_option Elab.async false
set_option linter.all false
set_option maxRecDepth 100000
set_option maxHeartbeats 4000000
/-! A layer of data over the hand layer: what a piece of code does is told of trees of data; the heap is kept in the lemmas. -/
namespace Dl
open PySem L2 Evl

/-- what a name or a place on the way holds: nothing told, data, the very value, or another thing of the data's heap -/
inductive En where
  | no | dat (d : PyData) | val (v : V) | th (k : List Int) (φ : Hp → V → Prop)

def Ok (K : PySem.W.Frag) (G : Hp) (v : V) : En → Prop
  | .no => True
  | .dat d => Dp K G v d
  | .val u => v = u
  | .th _ φ => ∃ G0, Ex G0 G ∧ φ G0 v

mutual
theorem dpMono {K : PySem.W.Frag} {G G' : Hp} (e : Ex G G') : ∀ {v : V} {d : PyData}, Dp K G v d → Dp K G' v d
  | _, _, .non => .non
  | _, _, .bl b => .bl b
  | _, _, .int i => .int i
  | _, _, .str x => .str x
  | _, _, .lst s a => .lst (ex_l e s) (dpaMono e a)
  | _, _, .tup s a => .tup (ex_t e s) (dpaMono e a)
theorem dpaMono {K : PySem.W.Frag} {G G' : Hp} (e : Ex G G') : ∀ {vs : List V} {ds : List PyData}, DpAll K G vs ds → DpAll K G' vs ds
  | _, _, .nil => .nil
  | _, _, .cons h t => .cons (dpMono e h) (dpaMono e t)
end
theorem Ok.mono {K : PySem.W.Frag} {G G' : Hp} {v : V} {x : En} (e : Ex G G') (h : Ok K G v x) : Ok K G' v x := by
  cases x with
  | no => trivial
  | dat d => exact dpMono e h
  | val u => exact h
  | th k φ =>
    obtain ⟨G0, e0, q⟩ := h
    exact ⟨G0, e0.trans e, q⟩

abbrev Vs (K : PySem.W.Frag) (G : Hp) : List V → List En → Prop := Paired (Ok K G)
theorem Vs.mono {K : PySem.W.Frag} {G G' : Hp} (e : Ex G G') : ∀ {vs : List V} {es : List En}, Vs K G vs es → Vs K G' vs es
  | _, _, .nil => .nil
  | _, _, .cons h t => .cons (h.mono e) (Vs.mono e t)
theorem Vs.len {K : PySem.W.Frag} {G : Hp} : ∀ {vs : List V} {es : List En}, Vs K G vs es → vs.length = es.length
  | _, _, .nil => rfl
  | _, _, .cons _ t => congrArg Nat.succ (Vs.len t)
theorem Vs.dpa {K : PySem.W.Frag} {G : Hp} : ∀ {vs : List V} {ds : List PyData}, Vs K G vs (ds.map .dat) → DpAll K G vs ds
  | _, [], h => by cases h; exact .nil
  | _, d :: ds, h => by
    cases h with
    | cons a b => exact .cons a (Vs.dpa b)
theorem Vs.of_dpa {K : PySem.W.Frag} {G : Hp} : ∀ {vs : List V} {ds : List PyData}, DpAll K G vs ds → Vs K G vs (ds.map .dat)
  | _, _, .nil => .nil
  | _, _, .cons a b => .cons a (Vs.of_dpa b)
theorem Vs.get {K : PySem.W.Frag} {G : Hp} : ∀ {vs : List V} {es : List En} {i : Nat} {x : En}, Vs K G vs es → es[i]? = some x → ∃ v, vs[i]? = some v ∧ Ok K G v x
  | _, _, 0, _, .cons h _, e => by
    simp only [List.getElem?_cons_zero, Option.some.injEq] at e
    subst e
    exact ⟨_, rfl, h⟩
  | _, _, i + 1, _, .cons _ t, e => by
    simp only [List.getElem?_cons_succ] at e
    obtain ⟨v, a, b⟩ := Vs.get t e
    exact ⟨v, by simpa using a, b⟩
theorem Vs.getV {K : PySem.W.Frag} {G : Hp} : ∀ {vs : List V} {es : List En} {i : Nat} {v : V}, Vs K G vs es → vs[i]? = some v → ∃ x, es[i]? = some x ∧ Ok K G v x
  | _, _, 0, _, .cons h _, e => by
    simp only [List.getElem?_cons_zero, Option.some.injEq] at e
    subst e
    exact ⟨_, rfl, h⟩
  | _, _, i + 1, _, .cons _ t, e => by
    simp only [List.getElem?_cons_succ] at e
    obtain ⟨v, a, b⟩ := Vs.getV t e
    exact ⟨v, by simpa using a, b⟩
theorem Vs.app {K : PySem.W.Frag} {G : Hp} {v : V} {x : En} : ∀ {vs : List V} {es : List En}, Vs K G vs es → Ok K G v x → Vs K G (vs ++ [v]) (es ++ [x])
  | _, _, .nil, h => .cons h .nil
  | _, _, .cons a t, h => .cons a (Vs.app t h)
theorem Vs.cat {K : PySem.W.Frag} {G : Hp} : ∀ {vs ws : List V} {es fs : List En}, Vs K G vs es → Vs K G ws fs → Vs K G (vs ++ ws) (es ++ fs)
  | _, _, _, _, .nil, h => h
  | _, _, _, _, .cons a t, h => .cons a (Vs.cat t h)
theorem Vs.setAt {K : PySem.W.Frag} {G : Hp} {v : V} {x : En} : ∀ {vs : List V} {es : List En} (i : Nat), Vs K G vs es → Ok K G v x → Vs K G (vs.set i v) (es.set i x)
  | _, _, _, .nil, _ => .nil
  | _, _, 0, .cons _ t, h => .cons h t
  | _, _, i + 1, .cons a t, h => .cons a (Vs.setAt i t h)
theorem Vs.dropN {K : PySem.W.Frag} {G : Hp} : ∀ {vs : List V} {es : List En} (i : Nat), Vs K G vs es → Vs K G (vs.drop i) (es.drop i)
  | _, _, 0, h => h
  | _, _, _ + 1, .nil => .nil
  | _, _, i + 1, .cons _ t => Vs.dropN i t
theorem Vs.takeN {K : PySem.W.Frag} {G : Hp} : ∀ {vs : List V} {es : List En} (i : Nat), Vs K G vs es → Vs K G (vs.take i) (es.take i)
  | _, _, 0, _ => .nil
  | _, _, _ + 1, .nil => .nil
  | _, _, i + 1, .cons a t => .cons a (Vs.takeN i t)

/-- the frame's names -/
def SOk (K : PySem.W.Frag) (G : Hp) : Option V → En → Prop
  | _, .no => True
  | some v, x => Ok K G v x
  | none, _ => False
abbrev Slots (K : PySem.W.Frag) (G : Hp) : St → List En → Prop := Paired (SOk K G)
theorem SOk.mono {K : PySem.W.Frag} {G G' : Hp} {v : Option V} {x : En} (e : Ex G G') (h : SOk K G v x) : SOk K G' v x := by
  cases x with
  | no => cases v <;> trivial
  | dat d => cases v with
    | none => exact h
    | some v => exact dpMono e h
  | val u => cases v with
    | none => exact h
    | some v => exact h
  | th k φ => cases v with
    | none => exact h
    | some v =>
      obtain ⟨G0, e0, q⟩ := h
      exact ⟨G0, e0.trans e, q⟩
theorem SOk.of {K : PySem.W.Frag} {G : Hp} {v : V} {x : En} (h : Ok K G v x) : SOk K G (some v) x := by
  cases x with
  | no => trivial
  | dat d => exact h
  | val u => exact h
  | th k φ => exact h
theorem Slots.mono {K : PySem.W.Frag} {G G' : Hp} (e : Ex G G') : ∀ {vs : St} {es : List En}, Slots K G vs es → Slots K G' vs es
  | _, _, .nil => .nil
  | _, _, .cons h t => .cons (SOk.mono e h) (Slots.mono e t)
/-- told things only: a name of which nothing is told can't be read -/
def En.told : En → Bool
  | .no => false
  | _ => true
theorem Slots.get {K : PySem.W.Frag} {G : Hp} : ∀ {vs : St} {es : List En} {i : Nat} {x : En}, Slots K G vs es → es[i]? = some x → x.told = true → ∃ v, vs[i]? = some (some v) ∧ Ok K G v x
  | _, _, 0, y, .cons (a := a) (b := x) h _, e, t => by
    simp only [List.getElem?_cons_zero, Option.some.injEq] at e
    subst e
    cases x with
    | no => cases t
    | dat d => cases a with
      | none => exact h.elim
      | some v => exact ⟨v, rfl, h⟩
    | val u => cases a with
      | none => exact h.elim
      | some v => exact ⟨v, rfl, h⟩
    | th k φ => cases a with
      | none => exact h.elim
      | some v => exact ⟨v, rfl, h⟩
  | _, _, i + 1, _, .cons _ t, e, tt => by
    simp only [List.getElem?_cons_succ] at e
    obtain ⟨v, a, b⟩ := Slots.get t e tt
    exact ⟨v, by simpa using a, b⟩
theorem Slots.set {K : PySem.W.Frag} {G : Hp} {v : Option V} {x : En} (h : SOk K G v x) : ∀ {vs : St} {es : List En} (i : Nat), Slots K G vs es → Slots K G (vs.set i v) (es.set i x)
  | _, _, _, .nil => .nil
  | _, _, 0, .cons _ t => .cons h t
  | _, _, i + 1, .cons q t => .cons q (Slots.set h i t)
def wipeE (δ : List En) : List Nat → List En
  | [] => δ
  | v :: vs => (wipeE δ vs).set v .no
theorem Slots.wipe {K : PySem.W.Frag} {G : Hp} {σ : St} {δ : List En} (h : Slots K G σ δ) : ∀ vs : List Nat, Slots K G (L2.wipe σ vs) (wipeE δ vs)
  | [] => h
  | v :: vs => by
    unfold L2.wipe wipeE
    exact Slots.set (K := K) (G := G) (v := none) (x := .no) trivial v (Slots.wipe h vs)
theorem Slots.start {K : PySem.W.Frag} {G : Hp} {vs : List V} {es : List En} (h : Vs K G vs es) (n : Nat) : Slots K G (vs.map some ++ List.replicate n none) (es ++ List.replicate n .no) := by
  induction h with
  | nil =>
    show Slots K G (List.replicate n none) (List.replicate n .no)
    induction n with
    | zero => exact .nil
    | succ n ih => exact .cons trivial ih
  | cons a t ih => exact .cons (SOk.of a) ih

/-! ### the state: how many draws are left, the lists that are changed -/
structure Sx where
  n : Nat
  own : List (Addr × List En)
/-- what stays through a piece of code: the purse (if there is one), the heap and its data at the entry -/
structure Fx where
  pu : Option (Addr × Addr)
  H0 : Hp
  G0 : Hp
/-- bounds of a cell -/
def CellOk (i : Int) : Prop := i.natAbs < 2 ^ 4000
structure PurseAt (H : Hp) (p c : Addr) (n : Nat) : Prop where
  ex : ∃ (cs : List Int) (t : Nat), H p = some (.lst [.ref c, .int (t : Int)]) ∧ H c = some (.lst (cs.map V.int)) ∧ 0 < cs.length ∧ cs.length ≤ 63 ∧ (∀ i ∈ cs, CellOk i) ∧ t + n ≤ 2 ^ 60
def isPu (f : Fx) (b : Addr) : Prop := ∃ p c, f.pu = some (p, c) ∧ (b = p ∨ b = c)
/-- every tuple of the data is told with its object, which has no dict of its own -/
def TF (G : Hp) : Prop := ∀ b, (∀ xs, G b ≠ some (.tup xs)) ∧ ∀ o xs, G b = some (.frz o (.tup xs)) → o.dict = none
def okO : HO → Prop
  | .tup _ => False
  | .frz o (.tup _) => o.dict = none
  | _ => True
theorem TF.upd {G : Hp} {q : Addr} {o : HO} (t : TF G) (h : okO o) : TF (L2.upd G q o) := fun b => by
  by_cases hb : b = q
  · rw [hb, upd_same]
    refine ⟨fun xs e => ?_, fun ob xs e => ?_⟩
    · cases e
      exact h
    · cases e
      exact h
  · rw [upd_ne hb]
    exact t b
structure J (K : PySem.W.Frag) (f : Fx) (s : Sx) (G H : Hp) : Prop where
  ex : Ex G H
  own : ∀ D es, (D, es) ∈ s.own → G D = none ∧ f.H0 D = none ∧ ¬ isPu f D ∧ ∃ xs, H D = some (.lst xs) ∧ Vs K G xs es
  nd : (s.own.map (·.1)).Nodup
  pu : ∀ p c, f.pu = some (p, c) → G p = none ∧ G c = none ∧ f.H0 p ≠ none ∧ f.H0 c ≠ none ∧ PurseAt H p c s.n
  fr : ∀ b o, ¬ isPu f b → f.H0 b = some o → H b = some o
  g0 : Ex f.G0 G
  fs : ∀ b, G b ≠ none → f.G0 b = none → f.H0 b = none
  tf : TF G

section
variable {K : PySem.W.Frag} {f : Fx} {s : Sx} {G H G2 H2 : Hp}
/-- a piece that leaves all that was, and gives data in what was there and what is new -/
theorem J.pure (j : J K f s G H) (e : Ex G G2) (e2 : Ex G2 H2) (e3 : Ex H H2) (fr : ∀ b, G2 b ≠ none → G b = none → H b = none) (t2 : TF G2) : J K f s G2 H2 where
  tf := t2
  ex := e2
  own := fun D es m => by
    obtain ⟨a, b, c, xs, d, x⟩ := j.own D es m
    refine ⟨?_, b, c, xs, e3 _ _ d, x.mono e⟩
    cases q : G2 D with
    | none => rfl
    | some o =>
      have := fr D (by rw [q]; simp) a
      rw [d] at this
      cases this
  nd := j.nd
  pu := fun p c h => by
    obtain ⟨a, b, hp, hc, ⟨cs, t, x, y, z⟩⟩ := j.pu p c h
    refine ⟨?_, ?_, hp, hc, ⟨cs, t, e3 _ _ x, e3 _ _ y, z⟩⟩
    · cases q : G2 p with
      | none => rfl
      | some o =>
        have := fr p (by rw [q]; simp) a
        rw [x] at this
        cases this
    · cases q : G2 c with
      | none => rfl
      | some o =>
        have := fr c (by rw [q]; simp) b
        rw [y] at this
        cases this
  fr := fun b o h1 h2 => e3 _ _ (j.fr b o h1 h2)
  g0 := j.g0.trans e
  fs := fun b h1 h2 => by
    cases q : G b with
    | some o => exact j.fs b (by rw [q]; simp) h2
    | none =>
      have h := fr b h1 q
      cases r : f.H0 b with
      | none => rfl
      | some o =>
        by_cases hp : isPu f b
        · obtain ⟨p, c, e1, e2⟩ := hp
          obtain ⟨_, _, _, _, ⟨cs, t, x, y, _⟩⟩ := j.pu p c e1
          rcases e2 with e2 | e2
          · rw [e2] at h; rw [x] at h; cases h
          · rw [e2] at h; rw [y] at h; cases h
        · have := j.fr b o hp r
          rw [h] at this; cases this
theorem J.alloc (j : J K f s G H) {q : Addr} (h : H q = none) (o : HO) (ho : okO o) : J K f s (upd G q o) (upd H q o) := by
  have hg : G q = none := fresh_back j.ex h
  refine j.pure (Ex.new hg) (fun b x e => ?_) (Ex.new h) (fun b h1 h2 => ?_) (j.tf.upd ho)
  · by_cases hb : b = q
    · subst hb
      rw [upd_same] at e ⊢
      exact e
    · rw [upd_ne hb] at e ⊢
      exact j.ex _ _ e
  · by_cases hb : b = q
    · rw [hb]; exact h
    · rw [upd_ne hb] at h1
      exact absurd h2 h1
/-- a new list that will be changed -/
theorem J.ownNew (j : J K f s G H) {q : Addr} {xs : List V} {es : List En} (h : H q = none) (v : Vs K G xs es) : J K f ⟨s.n, (q, es) :: s.own⟩ G (upd H q (.lst xs)) := by
  have hg : G q = none := fresh_back j.ex h
  have e3 : Ex H (upd H q (.lst xs)) := Ex.new h
  have nq : ∀ b o, H b = some o → b ≠ q := fun b o e => ne_of_none e h
  refine ⟨j.ex.trans e3, fun D fs m => ?_, ?_, fun p c e => ?_, fun b o h1 h2 => e3 _ _ (j.fr b o h1 h2), j.g0, j.fs, j.tf⟩
  · rcases List.mem_cons.mp m with e | m
    · cases e
      refine ⟨hg, ?_, ?_, xs, upd_same, v⟩
      · cases r : f.H0 q with
        | none => rfl
        | some o =>
          by_cases hp : isPu f q
          · obtain ⟨p, c, e1, e2⟩ := hp
            obtain ⟨_, _, _, _, ⟨cs, t, x, y, _⟩⟩ := j.pu p c e1
            rcases e2 with e2 | e2
            · rw [e2] at h; rw [x] at h; cases h
            · rw [e2] at h; rw [y] at h; cases h
          · have := j.fr q o hp r
            rw [h] at this; cases this
      · rintro ⟨p, c, e1, e2⟩
        obtain ⟨_, _, _, _, ⟨cs, t, x, y, _⟩⟩ := j.pu p c e1
        rcases e2 with e2 | e2
        · rw [e2] at h; rw [x] at h; cases h
        · rw [e2] at h; rw [y] at h; cases h
    · obtain ⟨a, b, c, ys, d, x⟩ := j.own D fs m
      exact ⟨a, b, c, ys, e3 _ _ d, x⟩
  · refine List.nodup_cons.mpr ⟨fun m => ?_, j.nd⟩
    obtain ⟨⟨D, fs⟩, m1, e1⟩ := List.mem_map.mp m
    obtain ⟨_, _, _, ys, d, _⟩ := j.own D fs m1
    have e1' : D = q := e1
    rw [e1', h] at d
    cases d
  · obtain ⟨a, b, hp, hc, ⟨cs, t, x, y, z⟩⟩ := j.pu p c e
    exact ⟨a, b, hp, hc, ⟨cs, t, e3 _ _ x, e3 _ _ y, z⟩⟩
/-- the list on top is changed -/
theorem J.ownSet {n : Nat} {q : Addr} {es es' : List En} {r : List (Addr × List En)} (j : J K f ⟨n, (q, es) :: r⟩ G H) {xs : List V} (v : Vs K G xs es') : J K f ⟨n, (q, es') :: r⟩ G (upd H q (.lst xs)) := by
  obtain ⟨a0, b0, c0, ys, d0, x0⟩ := j.own q es (List.mem_cons_self ..)
  have nd := List.nodup_cons.mp (show (q :: r.map (·.1)).Nodup from j.nd)
  refine ⟨fun b o e => ?_, fun D fs m => ?_, j.nd, fun p c e => ?_, fun b o h1 h2 => ?_, j.g0, j.fs, j.tf⟩
  · have hb : b ≠ q := ne_of_none e a0
    rw [upd_ne hb]
    exact j.ex _ _ e
  · rcases List.mem_cons.mp m with e | m
    · cases e
      exact ⟨a0, b0, c0, xs, upd_same, v⟩
    · obtain ⟨a, b, c, zs, d, x⟩ := j.own D fs (List.mem_cons_of_mem _ m)
      have hb : D ≠ q := fun e => nd.1 (by rw [← e]; exact List.mem_map.mpr ⟨_, m, rfl⟩)
      exact ⟨a, b, c, zs, by rw [upd_ne hb]; exact d, x⟩
  · obtain ⟨a, b, hp, hc, ⟨cs, t, x, y, z⟩⟩ := j.pu p c e
    have h1 : p ≠ q := fun e1 => c0 ⟨p, c, e, .inl e1.symm⟩
    have h2 : c ≠ q := fun e1 => c0 ⟨p, c, e, .inr e1.symm⟩
    exact ⟨a, b, hp, hc, ⟨cs, t, by rw [upd_ne h1]; exact x, by rw [upd_ne h2]; exact y, z⟩⟩
  · have hb : b ≠ q := fun e => by rw [e, b0] at h2; cases h2
    rw [upd_ne hb]
    exact j.fr b o h1 h2
/-- it is changed no more: it is data -/
theorem J.ownEnd {n : Nat} {q : Addr} {es : List En} {r : List (Addr × List En)} (j : J K f ⟨n, (q, es) :: r⟩ G H) : ∃ xs, J K f ⟨n, r⟩ (upd G q (.lst xs)) H ∧ Vs K G xs es ∧ G q = none ∧ H q = some (.lst xs) := by
  obtain ⟨a0, b0, c0, ys, d0, x0⟩ := j.own q es (List.mem_cons_self ..)
  have nd := List.nodup_cons.mp (show (q :: r.map (·.1)).Nodup from j.nd)
  have eg : Ex G (upd G q (.lst ys)) := Ex.new a0
  refine ⟨ys, ⟨fun b o e => ?_, fun D fs m => ?_, nd.2, fun p c e => ?_, j.fr, j.g0.trans eg, fun b h1 h2 => ?_, j.tf.upd trivial⟩, x0, a0, d0⟩
  · by_cases hb : b = q
    · rw [hb, upd_same] at e
      cases e
      rw [hb]
      exact d0
    · rw [upd_ne hb] at e
      exact j.ex _ _ e
  · obtain ⟨a, b, c, zs, d, x⟩ := j.own D fs (List.mem_cons_of_mem _ m)
    have hb : D ≠ q := fun e => nd.1 (by rw [← e]; exact List.mem_map.mpr ⟨_, m, rfl⟩)
    exact ⟨by rw [upd_ne hb]; exact a, b, c, zs, d, x.mono eg⟩
  · obtain ⟨a, b, hp, hc, z⟩ := j.pu p c e
    have h1 : p ≠ q := fun e1 => c0 ⟨p, c, e, .inl e1.symm⟩
    have h2 : c ≠ q := fun e1 => c0 ⟨p, c, e, .inr e1.symm⟩
    exact ⟨by rw [upd_ne h1]; exact a, by rw [upd_ne h2]; exact b, hp, hc, z⟩
  · by_cases hb : b = q
    · rw [hb]; exact b0
    · rw [upd_ne hb] at h1
      exact j.fs b h1 h2
/-- it is dropped -/
theorem J.ownDrop {n : Nat} {q : Addr} {es : List En} {r : List (Addr × List En)} (j : J K f ⟨n, (q, es) :: r⟩ G H) : J K f ⟨n, r⟩ G H :=
  ⟨j.ex, fun D fs m => j.own D fs (List.mem_cons_of_mem _ m), (List.nodup_cons.mp (show (q :: r.map (·.1)).Nodup from j.nd)).2, j.pu, j.fr, j.g0, j.fs, j.tf⟩
theorem J.less {m n : Nat} {r : List (Addr × List En)} (j : J K f ⟨n, r⟩ G H) (h : m ≤ n) : J K f ⟨m, r⟩ G H :=
  ⟨j.ex, j.own, j.nd, fun p c e => by
    obtain ⟨a, b, hp, hc, ⟨cs, t, x, y, z1, z2, z3, z4⟩⟩ := j.pu p c e
    exact ⟨a, b, hp, hc, ⟨cs, t, x, y, z1, z2, z3, Nat.le_trans (Nat.add_le_add_left h t) z4⟩⟩, j.fr, j.g0, j.fs, j.tf⟩
/-- the purse is changed -/
theorem J.draw {m n : Nat} {r : List (Addr × List En)} {p c : Addr} (j : J K f ⟨n, r⟩ G H) (e : f.pu = some (p, c)) (k : ∀ b o, b ≠ p → b ≠ c → H b = some o → H2 b = some o) (u : PurseAt H2 p c m) : J K f ⟨m, r⟩ G H2 := by
  obtain ⟨a, b, hp, hc, _⟩ := j.pu p c e
  refine ⟨fun d o h => ?_, fun D fs q => ?_, j.nd, fun p' c' e' => ?_, fun d o h1 h2 => ?_, j.g0, j.fs, j.tf⟩
  · exact k d o (ne_of_none h a) (ne_of_none h b) (j.ex _ _ h)
  · obtain ⟨x1, x2, x3, xs, x4, x5⟩ := j.own D fs q
    exact ⟨x1, x2, x3, xs, k D _ (fun z => x3 ⟨p, c, e, .inl z⟩) (fun z => x3 ⟨p, c, e, .inr z⟩) x4, x5⟩
  · rw [e] at e'
    cases e'
    exact ⟨a, b, hp, hc, u⟩
  · exact k d o (fun z => h1 ⟨p, c, e, .inl z⟩) (fun z => h1 ⟨p, c, e, .inr z⟩) (j.fr d o h1 h2)
end
end Dl

namespace Dl
open PySem L2 Evl

/-! ### tuples with their objects -/
section
variable {X : Cx} {es : List Expr} {t : TA} {pos : Pos}
def tTupF (t : TA) : TE := fun σ H Q => t σ H fun xs H1 => xs.length ≤ sizeLine ∧ ∀ p o, o.dict = none → H1 p = none → Q (.ref p) (upd H1 p (.frz o (.tup xs)))
theorem pe_tupF {x1} (h : PA X es t) : PE X (.Tuple es x1 pos) (tTupF t) := by
  refine ⟨fun pins s σ H Q I hq => ?_⟩
  refine wpAny_Tuple_spliced (thn (h.run pos pins s σ H _ I hq) fun us s1 ⟨xs, H1, I1, r, z, q⟩ => ⟨by rw [← r.length]; exact z, ?_⟩)
  have hf : H1 s1.heap.objs.size = none := I1.hok.fresh (Nat.le_refl _)
  refine ⟨.ref s1.heap.objs.size, upd H1 s1.heap.objs.size (.frz { cls := .type "tuple", data := .seq us.toArray } (.tup xs)), I1.laid (t' := s1.toks) (fun b u e => Heap.get?_push_of_some _ e) (Nat.le_refl _) ?_, rfl, q _ _ rfl hf⟩
  exact ⟨Heap.get?_push_size _ rfl, z, us, r, ⟨_, Heap.get?_push_size _ rfl, rfl, _, rfl⟩⟩
def rTupF (K : PySem.W.Frag) : List V → Hp → VK → Prop := fun xs H Q => ∃ p ys, xs = [.ref p] ∧ ((SqL K H p ys ∧ ∀ l o, o.dict = none → H l = none → Q (.ref l) (upd H l (.frz o (.tup ys)))) ∨ (SqT K H p ys ∧ Q (.ref p) H))
theorem call_tupleF : CallR X (.type "tuple") (rTupF X.K) := by
  intro pins s σ H xs us Q I r h
  obtain ⟨p, ys, rfl, h⟩ := h
  obtain ⟨u, rfl, rx⟩ := vals1 r
  cases rx
  rcases h with ⟨hq, q⟩ | ⟨hq, q⟩
  · obtain ⟨its, r', pl, hz⟩ := I.list hq
    have hlen := r'.length
    refine call_tuple_list pl.isList (fun h' kp => ?_) (by simp only [List.size_toArray] <;> omega)
    have I1 : L2.Inv X pins σ H { s with heap := h' } := I.kept (t' := s.toks) kp
    have I2 : L2.Inv X pins σ (upd H h'.objs.size (.frz { cls := .type "tuple", data := .seq its.toArray } (.tup ys))) { s with heap := h'.push { cls := .type "tuple", data := .seq its.toArray } } :=
      I1.laid (t' := s.toks) (fun b o e => Heap.get?_push_of_some _ e) (Nat.le_refl _) (show ObjOk X.prog X.w _ _ _ (.frz _ (.tup ys)) from ⟨Heap.get?_push_size _ rfl, hz, its, r', ⟨_, Heap.get?_push_size _ rfl, rfl, _, rfl⟩⟩)
    exact ⟨.ref h'.objs.size, _, I2, rfl, q _ _ rfl (I1.hok.fresh (Nat.le_refl _))⟩
  · obtain ⟨its, r', pl, hz⟩ := I.tuple hq
    exact call_tuple_same pl ⟨.ref p, H, I, rfl, q⟩
end
theorem st_frz {K : PySem.W.Frag} {H : Hp} {a : Addr} {o : Obj} {xs : List V} (h : H a = some (.frz o (.tup xs))) : SqT K H a xs := Or.inl (Or.inr ⟨o, h⟩)
/-! ### judgements -/
def Is {α : Type} (s : Sx) (x : α) : Sx → α → Prop := fun s' x' => s' = s ∧ x' = x
def ED (K : PySem.W.Frag) (f : Fx) (s : Sx) (te : TE) (δ : List En) (P : Sx → En → Prop) : Prop :=
  ∀ G H σ (Q : VK), Slots K G σ δ → J K f s G H → (∀ v x s' G2 H2, Ex G G2 → J K f s' G2 H2 → Ok K G2 v x → P s' x → Q v H2) → te σ H Q
def EA (K : PySem.W.Frag) (f : Fx) (s : Sx) (ta : TA) (δ : List En) (P : Sx → List En → Prop) : Prop :=
  ∀ G H σ (Q : List V → Hp → Prop), Slots K G σ δ → J K f s G H → (∀ vs xs s' G2 H2, Ex G G2 → J K f s' G2 H2 → Vs K G2 vs xs → P s' xs → Q vs H2) → ta σ H Q
def ET (K : PySem.W.Frag) (f : Fx) (s : Sx) (tt : TT) (δ : List En) (P : Sx → Bool → Prop) : Prop :=
  ∀ G H σ (Q : Bool → Hp → Prop), Slots K G σ δ → J K f s G H → (∀ b s' G2 H2, Ex G G2 → J K f s' G2 H2 → P s' b → Q b H2) → tt σ H Q
/-- an operation on two values, a call of values -/
def OD (K : PySem.W.Frag) (f : Fx) (r : R2) (s : Sx) (x y : En) (P : Sx → En → Prop) : Prop :=
  ∀ G H v u (Q : VK), J K f s G H → Ok K G v x → Ok K G u y → (∀ w z s' G2 H2, Ex G G2 → J K f s' G2 H2 → Ok K G2 w z → P s' z → Q w H2) → r v u H Q
def UD (K : PySem.W.Frag) (f : Fx) (r : V → Hp → VK → Prop) (s : Sx) (x : En) (P : Sx → En → Prop) : Prop :=
  ∀ G H v (Q : VK), J K f s G H → Ok K G v x → (∀ w z s' G2 H2, Ex G G2 → J K f s' G2 H2 → Ok K G2 w z → P s' z → Q w H2) → r v H Q
def CD (K : PySem.W.Frag) (f : Fx) (r : List V → Hp → VK → Prop) (s : Sx) (xs : List En) (P : Sx → En → Prop) : Prop :=
  ∀ G H vs (Q : VK), J K f s G H → Vs K G vs xs → (∀ w z s' G2 H2, Ex G G2 → J K f s' G2 H2 → Ok K G2 w z → P s' z → Q w H2) → r vs H Q

def enV : V → En
  | .int i => .dat (.int i)
  | .bl b => .dat (.bool b)
  | .str x => .dat (.str x)
  | .non => .dat .none
  | v => .val v
theorem ok_enV {K : PySem.W.Frag} {G : Hp} (v : V) : Ok K G v (enV v) := by
  cases v with
  | int i => exact .int i
  | bl b => exact .bl b
  | str x => exact .str x
  | non => exact .non
  | _ => exact rfl
def dats : List En → Option (List PyData)
  | [] => some []
  | .dat d :: r => (dats r).map (d :: ·)
  | _ :: _ => none
theorem dats_eq : ∀ {es : List En} {ds : List PyData}, dats es = some ds → es = ds.map .dat
  | [], _, e => by cases e; rfl
  | .dat d :: r, ds, e => by
    cases h : dats r with
    | none => simp [dats, h] at e
    | some q =>
      simp only [dats, h, Option.map_some, Option.some.injEq] at e
      subst e
      rw [dats_eq h]
      rfl
  | .no :: _, _, e => by simp [dats] at e
  | .val _ :: _, _, e => by simp [dats] at e
  | .th _ _ :: _, _, e => by simp [dats] at e

section
variable {K : PySem.W.Frag} {f : Fx} {s : Sx} {G H G2 H2 : Hp} {Q : VK} {w : V} {d : PyData}
theorem fD (k : ∀ w z s' G2 H2, Ex G G2 → J K f s' G2 H2 → Ok K G2 w z → Is s (.dat d) s' z → Q w H2) (jj : J K f s G H) (o : Dp K G w d) : Q w H := k w (.dat d) s G H (Ex.refl G) jj o ⟨rfl, rfl⟩
theorem fN (k : ∀ w z s' G2 H2, Ex G G2 → J K f s' G2 H2 → Ok K G2 w z → Is s (.dat d) s' z → Q w H2) (e : Ex G G2) (jj : J K f s G2 H2) (o : Dp K G2 w d) : Q w H2 := k w (.dat d) s G2 H2 e jj o ⟨rfl, rfl⟩
/-- a new list, a new tuple of data -/
theorem fL {xs : List V} {ds : List PyData} {p : Addr} (k : ∀ w z s' G2 H2, Ex G G2 → J K f s' G2 H2 → Ok K G2 w z → Is s (.dat (.list ds)) s' z → Q w H2) (jj : J K f s G H) (al : DpAll K G xs ds) (hp : H p = none) : Q (.ref p) (upd H p (.lst xs)) :=
  have eg : Ex G (upd G p (.lst xs)) := Ex.new (fresh_back jj.ex hp)
  fN k eg (jj.alloc hp _ trivial) (.lst (sq_of upd_same) (dpaMono eg al))
theorem fT {xs : List V} {ds : List PyData} {p : Addr} (k : ∀ w z s' G2 H2, Ex G G2 → J K f s' G2 H2 → Ok K G2 w z → Is s (.dat (.tuple ds)) s' z → Q w H2) (jj : J K f s G H) (al : DpAll K G xs ds) {o : Obj} (ho : o.dict = none) (hp : H p = none) : Q (.ref p) (upd H p (.frz o (.tup xs))) :=
  have eg : Ex G (upd G p (.frz o (.tup xs))) := Ex.new (fresh_back jj.ex hp)
  fN k eg (jj.alloc hp _ ho) (.tup (st_frz upd_same) (dpaMono eg al))
end
section
variable {K : PySem.W.Frag} {f : Fx} {s : Sx} {δ : List En} {ta tb te : TE} {tt tu : TT} {P R : Sx → En → Prop} {x y z : En}
theorem ed_imp (h : ED K f s te δ P) (i : ∀ s x, P s x → R s x) : ED K f s te δ R := fun G H σ Q a b c => h G H σ Q a b fun v x s' G2 H2 e j o p => c v x s' G2 H2 e j o (i _ _ p)
theorem ed_is (h : ED K f s te δ (Is s x)) (e : x = y) : ED K f s te δ (Is s y) := e ▸ h
theorem ed_var {i : Nat} (h : δ[i]? = some x) (t : x.told = true := by rfl) : ED K f s (tVar i) δ (Is s x) := fun G H σ Q a b c => by
  obtain ⟨v, e, o⟩ := Slots.get a h t
  exact ⟨v, e, c v x s G H (Ex.refl G) b o ⟨rfl, rfl⟩⟩
theorem ed_c {v : V} : ED K f s (tC v) δ (Is s (enV v)) := fun G H σ Q a b c => c v _ s G H (Ex.refl G) b (ok_enV v) ⟨rfl, rfl⟩
theorem ed_opN {P2 : Sx → En → Sx → En → Prop} {r : R2} (ha : ED K f s ta δ P) (hb : ∀ s1 x, P s1 x → ED K f s1 tb δ (P2 s1 x)) (hr : ∀ s1 x s2 y, P s1 x → P2 s1 x s2 y → OD K f r s2 x y R) : ED K f s (tOp r ta tb) δ R := fun G H σ Q a b c =>
  ha G H σ _ a b fun v x s1 G1 H1 e1 j1 o1 p1 => hb s1 x p1 G1 H1 σ _ (Slots.mono e1 a) j1 fun u y s2 G2 H2 e2 j2 o2 p2 => hr s1 x s2 y p1 p2 G2 H2 v u Q j2 (o1.mono e2) o2 fun w z s3 G3 H3 e3 j3 o3 p3 => c w z s3 G3 H3 ((e1.trans e2).trans e3) j3 o3 p3
theorem ed_op {r : R2} (ha : ED K f s ta δ (Is s x)) (hb : ED K f s tb δ (Is s y)) (hr : OD K f r s x y R) : ED K f s (tOp r ta tb) δ R :=
  ed_opN (P2 := fun _ _ => Is s y) ha (fun s1 x1 h => by obtain ⟨rfl, rfl⟩ := h; exact hb) fun s1 x1 s2 y1 h1 h2 => by obtain ⟨rfl, rfl⟩ := h1; obtain ⟨rfl, rfl⟩ := h2; exact hr
theorem ed_un {r : V → Hp → VK → Prop} (ha : ED K f s ta δ (Is s x)) (hr : UD K f r s x R) : ED K f s (tUn r ta) δ R := fun G H σ Q a b c =>
  ha G H σ _ a b fun v x1 s1 G1 H1 e1 j1 o1 p1 => by
    obtain ⟨rfl, rfl⟩ := p1
    exact hr G1 H1 v Q j1 o1 fun w z s3 G3 H3 e3 j3 o3 p3 => c w z s3 G3 H3 (e1.trans e3) j3 o3 p3
theorem od_I0 {g : Int → Int → V} {i j : Int} : OD K f (rI0 g) s (.dat (.int i)) (.dat (.int j)) (Is s (enV (g i j))) := fun G H v u Q jj a b c => by
  cases a; cases b
  exact ⟨i, j, rfl, rfl, c _ _ s G H (Ex.refl G) jj (ok_enV _) ⟨rfl, rfl⟩⟩
theorem od_I {C : Int → Int → Prop} {g : Int → Int → V} {i j : Int} (hc : C i j) : OD K f (rI C g) s (.dat (.int i)) (.dat (.int j)) (Is s (enV (g i j))) := fun G H v u Q jj a b c => by
  cases a; cases b
  exact ⟨i, j, rfl, rfl, hc, c _ _ s G H (Ex.refl G) jj (ok_enV _) ⟨rfl, rfl⟩⟩
theorem ud_neg {i : Int} : UD K f (rU fun i => .int (-i)) s (.dat (.int i)) (Is s (.dat (.int (-i)))) := fun G H v Q jj a c => by
  cases a
  exact ⟨i, rfl, fD c jj (.int _)⟩
theorem od_eqD {d e : PyData} (h1 : SeqAt.shaped d = true) (h2 : SeqAt.shaped e = true) : OD K f (rEqD K) s (.dat d) (.dat e) (Is s (.dat (.bool (PyData.eqv d e)))) := fun G H v u Q jj a b c =>
  ⟨d, e, dpMono jj.ex a, dpMono jj.ex b, h1, h2, fD c jj (.bl _)⟩
theorem od_neD {d e : PyData} (h1 : SeqAt.shaped d = true) (h2 : SeqAt.shaped e = true) : OD K f (rNeD K) s (.dat d) (.dat e) (Is s (.dat (.bool (!PyData.eqv d e)))) := fun G H v u Q jj a b c =>
  ⟨d, e, dpMono jj.ex a, dpMono jj.ex b, h1, h2, fD c jj (.bl _)⟩
theorem od_inD {d : PyData} {ds : List PyData} (h1 : SeqAt.shaped d = true) (h2 : SeqAt.shaped (.list ds) = true) : OD K f (rInD K) s (.dat d) (.dat (.list ds)) (Is s (.dat (.bool (ds.any fun z => PyData.eqv z d)))) := fun G H v u Q jj a b c =>
  ⟨d, ds, dpMono jj.ex a, dpMono jj.ex b, h1, h2, fD c jj (.bl _)⟩
theorem od_notInD {d : PyData} {ds : List PyData} (h1 : SeqAt.shaped d = true) (h2 : SeqAt.shaped (.list ds) = true) : OD K f (rNotInD K) s (.dat d) (.dat (.list ds)) (Is s (.dat (.bool (!ds.any fun z => PyData.eqv z d)))) := fun G H v u Q jj a b c =>
  ⟨d, ds, dpMono jj.ex a, dpMono jj.ex b, h1, h2, fD c jj (.bl _)⟩
theorem dpa_len {G : Hp} : ∀ {vs : List V} {ds : List PyData}, DpAll K G vs ds → vs.length = ds.length
  | _, _, .nil => rfl
  | _, _, .cons _ t => congrArg Nat.succ (dpa_len t)
theorem dpa_get {G : Hp} : ∀ {vs : List V} {ds : List PyData} {i : Nat} {d : PyData}, DpAll K G vs ds → ds[i]? = some d → ∃ v, vs[i]? = some v ∧ Dp K G v d
  | _, _, 0, _, .cons h _, e => by
    simp only [List.getElem?_cons_zero, Option.some.injEq] at e
    subst e
    exact ⟨_, rfl, h⟩
  | _, _, i + 1, _, .cons _ t, e => by
    simp only [List.getElem?_cons_succ] at e
    obtain ⟨v, a, b⟩ := dpa_get t e
    exact ⟨v, by simpa using a, b⟩
theorem dpa_getV {G : Hp} : ∀ {vs : List V} {ds : List PyData} {i : Nat} {v : V}, DpAll K G vs ds → vs[i]? = some v → ∃ d, ds[i]? = some d ∧ Dp K G v d
  | _, _, 0, _, .cons h _, e => by
    simp only [List.getElem?_cons_zero, Option.some.injEq] at e
    subst e
    exact ⟨_, rfl, h⟩
  | _, _, i + 1, _, .cons _ t, e => by
    simp only [List.getElem?_cons_succ] at e
    obtain ⟨v, a, b⟩ := dpa_getV t e
    exact ⟨v, by simpa using a, b⟩
theorem dpa_at {G : Hp} {vs : List V} {ds : List PyData} {i : Int} {d : PyData} (h : DpAll K G vs ds) (e : atI ds i = some d) : ∃ v, atI vs i = some v ∧ Dp K G v d := by
  unfold atI at e ⊢
  rw [dpa_len h]
  cases q : ixN ds.length i with
  | none => rw [q] at e; cases e
  | some j =>
    rw [q] at e
    exact dpa_get h e
theorem od_ix {ds : List PyData} {d c : PyData} {i : Int} (hk : c = .list ds ∨ c = .tuple ds) (e : atI ds i = some d) : OD K f (rIx K) s (.dat c) (.dat (.int i)) (Is s (.dat d)) := fun G H v u Q jj a b k => by
  cases b
  rcases hk with rfl | rfl
  · cases a with
    | lst sq al =>
      obtain ⟨w, e1, o⟩ := dpa_at al e
      exact .inl ⟨_, _, i, w, rfl, rfl, ex_l jj.ex sq, e1, fD k jj o⟩
  · cases a with
    | tup sq al =>
      obtain ⟨w, e1, o⟩ := dpa_at al e
      exact .inr (.inl ⟨_, _, i, w, rfl, rfl, ex_t jj.ex sq, e1, fD k jj o⟩)
/-! ### arguments -/
theorem ea_nil : EA K f s tNil δ (Is s []) := fun G H σ Q a b c => c [] [] s G H (Ex.refl G) b .nil ⟨rfl, rfl⟩
theorem ea_consN {tr : TA} {P2 : Sx → En → Sx → List En → Prop} {R : Sx → List En → Prop} (ha : ED K f s ta δ P) (hb : ∀ s1 x, P s1 x → EA K f s1 tr δ (P2 s1 x)) (k : ∀ s1 x s2 xs, P s1 x → P2 s1 x s2 xs → R s2 (x :: xs)) : EA K f s (tCons ta tr) δ R := fun G H σ Q a b c =>
  ha G H σ _ a b fun v x s1 G1 H1 e1 j1 o1 p1 => hb s1 x p1 G1 H1 σ _ (Slots.mono e1 a) j1 fun vs xs s2 G2 H2 e2 j2 o2 p2 => c _ _ s2 G2 H2 (e1.trans e2) j2 (.cons (o1.mono e2) o2) (k s1 x s2 xs p1 p2)
theorem ea_cons {tr : TA} {xs : List En} (ha : ED K f s ta δ (Is s x)) (hb : EA K f s tr δ (Is s xs)) : EA K f s (tCons ta tr) δ (Is s (x :: xs)) :=
  ea_consN (P2 := fun _ _ => Is s xs) ha (fun s1 x1 h => by obtain ⟨rfl, rfl⟩ := h; exact hb) fun s1 x1 s2 y1 h1 h2 => by obtain ⟨rfl, rfl⟩ := h1; obtain ⟨rfl, rfl⟩ := h2; exact ⟨rfl, rfl⟩
theorem ed_tup {t : TA} {es : List En} {ds : List PyData} (h : EA K f s t δ (Is s es)) (e : dats es = some ds) (hl : ds.length ≤ 100000 := by exact Nat.le_of_ble_eq_true rfl) : ED K f s (tTupF t) δ (Is s (.dat (.tuple ds))) := fun G H σ Q a b c =>
  h G H σ _ a b fun vs xs s1 G1 H1 e1 j1 o1 p1 => by
    obtain ⟨rfl, rfl⟩ := p1
    rw [dats_eq e] at o1
    have o2 := Vs.dpa o1
    refine ⟨sz_of (by rw [dpa_len o2]; exact hl), fun p o ho hp => ?_⟩
    exact fT (fun w z s' G2 H2 e3 => c w z s' G2 H2 (e1.trans e3)) j1 o2 ho hp
theorem ed_lst {t : TA} {es : List En} {ds : List PyData} (h : EA K f s t δ (Is s es)) (e : dats es = some ds) (hl : ds.length ≤ 100000 := by exact Nat.le_of_ble_eq_true rfl) : ED K f s (tLst t) δ (Is s (.dat (.list ds))) := fun G H σ Q a b c =>
  h G H σ _ a b fun vs xs s1 G1 H1 e1 j1 o1 p1 => by
    obtain ⟨rfl, rfl⟩ := p1
    rw [dats_eq e] at o1
    have o2 := Vs.dpa o1
    refine ⟨sz_of (by rw [dpa_len o2]; exact hl), fun p hp => ?_⟩
    exact fL (fun w z s' G2 H2 e3 => c w z s' G2 H2 (e1.trans e3)) j1 o2 hp
theorem ed_cb {r : List V → Hp → VK → Prop} {t : TA} {es : List En} (h : EA K f s t δ (Is s es)) (hr : CD K f r s es R) : ED K f s (tCB r t) δ R := fun G H σ Q a b c =>
  h G H σ _ a b fun vs xs s1 G1 H1 e1 j1 o1 p1 => by
    obtain ⟨rfl, rfl⟩ := p1
    exact hr G1 H1 vs Q j1 o1 fun w z s3 G3 H3 e3 j3 o3 p3 => c w z s3 G3 H3 (e1.trans e3) j3 o3 p3
/-! ### built-ins -/
theorem cd_len {ds : List PyData} {c : PyData} (hk : c = .list ds ∨ c = .tuple ds) : CD K f (fun xs H Q => ∃ p ys, xs = [.ref p] ∧ (SqL K H p ys ∨ SqT K H p ys) ∧ Q (.int ys.length) H) s [.dat c] (Is s (.dat (.int ds.length))) := fun G H vs Q jj a k => by
  cases a with
  | cons h t =>
    cases t
    rcases hk with rfl | rfl
    · cases h with
      | lst sq al =>
        refine ⟨_, _, rfl, .inl (ex_l jj.ex sq), ?_⟩
        rw [dpa_len al]
        exact fD k jj (.int _)
    · cases h with
      | tup sq al =>
        refine ⟨_, _, rfl, .inr (ex_t jj.ex sq), ?_⟩
        rw [dpa_len al]
        exact fD k jj (.int _)
theorem cd_list {ds : List PyData} {c : PyData} (hk : c = .list ds ∨ c = .tuple ds) : CD K f (fun xs H Q => ∃ p ys, xs = [.ref p] ∧ (SqL K H p ys ∨ SqT K H p ys) ∧ ∀ l, H l = none → Q (.ref l) (upd H l (.lst ys))) s [.dat c] (Is s (.dat (.list ds))) := fun G H vs Q jj a k => by
  cases a with
  | cons h t =>
    cases t
    rcases hk with rfl | rfl
    · cases h with
      | lst sq al =>
        refine ⟨_, _, rfl, .inl (ex_l jj.ex sq), fun p hp => ?_⟩
        exact fL k jj al hp
    · cases h with
      | tup sq al =>
        refine ⟨_, _, rfl, .inr (ex_t jj.ex sq), fun p hp => ?_⟩
        exact fL k jj al hp
theorem cd_tuple {ds : List PyData} : CD K f (rTupF K) s [.dat (.list ds)] (Is s (.dat (.tuple ds))) := fun G H vs Q jj a k => by
  cases a with
  | cons h t =>
    cases t
    cases h with
    | lst sq al =>
      refine ⟨_, _, rfl, .inl ⟨ex_l jj.ex sq, fun p o ho hp => ?_⟩⟩
      exact fT k jj al ho hp
theorem dpa_bools {G : Hp} : ∀ {vs : List V} {bs : List Bool}, DpAll K G vs (bs.map .bool) → vs = bs.map V.bl
  | _, [], h => by cases h; rfl
  | _, b :: bs, h => by
    cases h with
    | cons a t =>
      cases a
      rw [dpa_bools t]
      rfl
theorem dpa_ints {G : Hp} : ∀ {vs : List V} {bs : List Int}, DpAll K G vs (bs.map .int) → vs = bs.map V.int
  | _, [], h => by cases h; rfl
  | _, b :: bs, h => by
    cases h with
    | cons a t =>
      cases a
      rw [dpa_ints t]
      rfl
theorem cd_all {bs : List Bool} : CD K f (rAll K) s [.dat (.list (bs.map .bool))] (Is s (.dat (.bool (bs.all id)))) := fun G H vs Q jj a k => by
  cases a with
  | cons h t =>
    cases t
    cases h with
    | lst sq al =>
      rw [dpa_bools al] at sq
      exact ⟨_, bs, rfl, ex_l jj.ex sq, fD k jj (.bl _)⟩
/-- the class of data -/
def tyD : PyData → String
  | .none => "NoneType"
  | .bool _ => "bool"
  | .int _ => "int"
  | .str _ => "str"
  | .list _ => "list"
  | .tuple _ => "tuple"
  | .dict _ => "dict"
theorem ty_ok {G : Hp} {v : V} {d : PyData} (h : Dp K G v d) : TyX K G v (.type (tyD d)) := by
  cases h with
  | non => exact .base .non
  | bl b => exact .base (.bl b)
  | int i => exact .base (.int i)
  | str x => exact .base (.str x)
  | lst sq _ =>
    rcases sq with (e | ⟨o, e⟩) | ⟨o, its, n, e, c, _⟩
    · exact .base (.lst e)
    · exact .base (.frz e)
    · exact .kList e c
  | tup sq _ =>
    rcases sq with (e | ⟨o, e⟩) | ⟨o, its, n, e, c, _⟩
    · exact .base (.tup e)
    · exact .fTuple e
    · exact .kTuple e c
theorem cd_isi {d : PyData} {n : String} {b : Bool} (h : PySem.W.kitOne K (.type (tyD d)) (.type n) = some b) : CD K f (rIsi K) s [.dat d, .val (.ty n)] (Is s (.dat (.bool b))) := fun G H vs Q jj a k => by
  cases a with
  | cons h1 t =>
    cases t with
    | cons h2 t =>
      cases t
      cases (show _ = V.ty n from h2)
      exact ⟨_, _, _, _, b, rfl, .ty n, ty_ok (dpMono jj.ex h1), h, fD k jj (.bl _)⟩
end
end Dl

namespace Dl
open PySem L2 Evl
/-! ### tests -/
section
variable {K : PySem.W.Frag} {f : Fx} {s : Sx} {δ : List En} {ta tb te : TE} {tt tu : TT} {P R : Sx → En → Prop} {x y z : En} {a b : Bool}
theorem et_imp {P R : Sx → Bool → Prop} (h : ET K f s tt δ P) (i : ∀ s x, P s x → R s x) : ET K f s tt δ R := fun G H σ Q a b c => h G H σ Q a b fun v s' G2 H2 e j p => c v s' G2 H2 e j (i _ _ p)
theorem et_is (h : ET K f s tt δ (Is s a)) (e : a = b) : ET K f s tt δ (Is s b) := e ▸ h
theorem et_test (h : ED K f s te δ (Is s (.dat (.bool b)))) : ET K f s (tTest te) δ (Is s b) := fun G H σ Q a b c => h G H σ _ a b fun v x s1 G1 H1 e1 j1 o1 p1 => by
  obtain ⟨rfl, rfl⟩ := p1
  cases o1
  exact ⟨_, rfl, c _ _ G1 H1 e1 j1 ⟨rfl, rfl⟩⟩
theorem et_B (h : ED K f s te δ (Is s (.dat (.bool b)))) : ET K f s (tB te) δ (Is s b) := fun G H σ Q a b c => h G H σ _ a b fun v x s1 G1 H1 e1 j1 o1 p1 => by
  obtain ⟨rfl, rfl⟩ := p1
  cases o1
  exact ⟨_, rfl, c _ _ G1 H1 e1 j1 ⟨rfl, rfl⟩⟩
theorem et_and (h1 : ET K f s tt δ (Is s a)) (h2 : a = true → ET K f s tu δ (Is s b)) : ET K f s (tAnd tt tu) δ (Is s (a && b)) := fun G H σ Q sl j c => h1 G H σ _ sl j fun v s1 G1 H1 e1 j1 p1 => by
  obtain ⟨rfl, rfl⟩ := p1
  cases v with
  | true =>
    show tu σ H1 Q
    exact h2 rfl G1 H1 σ Q (Slots.mono e1 sl) j1 fun v s2 G2 H2 e2 j2 p2 => c v s2 G2 H2 (e1.trans e2) j2 (by obtain ⟨rfl, rfl⟩ := p2; exact ⟨rfl, by simp⟩)
  | false =>
    show Q false H1
    exact c _ _ G1 H1 e1 j1 ⟨rfl, by simp⟩
theorem et_or (h1 : ET K f s tt δ (Is s a)) (h2 : a = false → ET K f s tu δ (Is s b)) : ET K f s (tOr tt tu) δ (Is s (a || b)) := fun G H σ Q sl j c => h1 G H σ _ sl j fun v s1 G1 H1 e1 j1 p1 => by
  obtain ⟨rfl, rfl⟩ := p1
  cases v with
  | true =>
    show Q true H1
    exact c _ _ G1 H1 e1 j1 ⟨rfl, by simp⟩
  | false =>
    show tu σ H1 Q
    exact h2 rfl G1 H1 σ Q (Slots.mono e1 sl) j1 fun v s2 G2 H2 e2 j2 p2 => c v s2 G2 H2 (e1.trans e2) j2 (by obtain ⟨rfl, rfl⟩ := p2; exact ⟨rfl, by simp⟩)
theorem et_not (h1 : ET K f s tt δ (Is s a)) : ET K f s (tNot tt) δ (Is s (!a)) := fun G H σ Q sl j c => h1 G H σ _ sl j fun v s1 G1 H1 e1 j1 p1 => by
  obtain ⟨rfl, rfl⟩ := p1
  exact c _ _ G1 H1 e1 j1 ⟨rfl, rfl⟩
theorem ed_andV {P : Sx → En → Prop} (h1 : ED K f s ta δ (Is s (.dat (.bool a)))) (h2 : a = true → ED K f s tb δ P) (h3 : a = false → P s (.dat (.bool false))) : ED K f s (tAndV ta tb) δ P := fun G H σ Q sl j c => h1 G H σ _ sl j fun v x s1 G1 H1 e1 j1 o1 p1 => by
  obtain ⟨rfl, rfl⟩ := p1
  cases o1
  refine ⟨_, rfl, ?_⟩
  cases a with
  | true =>
    show tb σ H1 Q
    exact h2 rfl G1 H1 σ Q (Slots.mono e1 sl) j1 fun v x s2 G2 H2 e2 j2 o2 p2 => c v x s2 G2 H2 (e1.trans e2) j2 o2 p2
  | false =>
    show Q (.bl false) H1
    exact c _ (.dat (.bool false)) _ G1 H1 e1 j1 (.bl _) (h3 rfl)
theorem ed_orV {P : Sx → En → Prop} (h1 : ED K f s ta δ (Is s (.dat (.bool a)))) (h2 : a = false → ED K f s tb δ P) (h3 : a = true → P s (.dat (.bool true))) : ED K f s (tOrV ta tb) δ P := fun G H σ Q sl j c => h1 G H σ _ sl j fun v x s1 G1 H1 e1 j1 o1 p1 => by
  obtain ⟨rfl, rfl⟩ := p1
  cases o1
  refine ⟨_, rfl, ?_⟩
  cases a with
  | false =>
    show tb σ H1 Q
    exact h2 rfl G1 H1 σ Q (Slots.mono e1 sl) j1 fun v x s2 G2 H2 e2 j2 o2 p2 => c v x s2 G2 H2 (e1.trans e2) j2 o2 p2
  | true =>
    show Q (.bl true) H1
    exact c _ (.dat (.bool true)) _ G1 H1 e1 j1 (.bl _) (h3 rfl)
theorem ed_notV (h1 : ED K f s ta δ (Is s (.dat (.bool a)))) : ED K f s (tNotV ta) δ (Is s (.dat (.bool (!a)))) := fun G H σ Q sl j c => h1 G H σ _ sl j fun v x s1 G1 H1 e1 j1 o1 p1 => by
  obtain ⟨rfl, rfl⟩ := p1
  cases o1
  exact ⟨_, rfl, c _ (.dat (.bool (!a))) _ G1 H1 e1 j1 (.bl _) ⟨rfl, rfl⟩⟩
theorem ed_if {P : Sx → En → Prop} {PT : Sx → Bool → Prop} (h : ET K f s tt δ PT) (h1 : ∀ s1, PT s1 true → ED K f s1 ta δ P) (h2 : ∀ s1, PT s1 false → ED K f s1 tb δ P) : ED K f s (tIf tt ta tb) δ P := fun G H σ Q sl j c => h G H σ _ sl j fun v s1 G1 H1 e1 j1 p1 => by
  cases v with
  | true =>
    show ta σ H1 Q
    exact h1 s1 p1 G1 H1 σ Q (Slots.mono e1 sl) j1 fun v x s2 G2 H2 e2 j2 o2 p2 => c v x s2 G2 H2 (e1.trans e2) j2 o2 p2
  | false =>
    show tb σ H1 Q
    exact h2 s1 p1 G1 H1 σ Q (Slots.mono e1 sl) j1 fun v x s2 G2 H2 e2 j2 o2 p2 => c v x s2 G2 H2 (e1.trans e2) j2 o2 p2
end

/-! ### statements -/
structure Po where
  nx : Sx → List En → Prop
  rt : Sx → En → Prop
  bk : Sx → List En → Prop := fun _ _ => False
  ct : Sx → List En → Prop := fun _ _ => False
structure Sat (K : PySem.W.Frag) (f : Fx) (G : Hp) (D : Ends) (p : Po) : Prop where
  nx : ∀ σ δ s' G2 H2, Ex G G2 → J K f s' G2 H2 → Slots K G2 σ δ → p.nx s' δ → D.nx σ H2
  rt : ∀ v x s' G2 H2, Ex G G2 → J K f s' G2 H2 → Ok K G2 v x → p.rt s' x → D.rt v H2
  bk : ∀ σ δ s' G2 H2, Ex G G2 → J K f s' G2 H2 → Slots K G2 σ δ → p.bk s' δ → D.bk σ H2
  ct : ∀ σ δ s' G2 H2, Ex G G2 → J K f s' G2 H2 → Slots K G2 σ δ → p.ct s' δ → D.ct σ H2
theorem Sat.mono {K : PySem.W.Frag} {f : Fx} {G G1 : Hp} {D : Ends} {p : Po} (e : Ex G G1) (h : Sat K f G D p) : Sat K f G1 D p :=
  ⟨fun σ δ s' G2 H2 e2 => h.nx σ δ s' G2 H2 (e.trans e2), fun σ δ s' G2 H2 e2 => h.rt σ δ s' G2 H2 (e.trans e2), fun σ δ s' G2 H2 e2 => h.bk σ δ s' G2 H2 (e.trans e2), fun σ δ s' G2 H2 e2 => h.ct σ δ s' G2 H2 (e.trans e2)⟩
def SD (K : PySem.W.Frag) (f : Fx) (s : Sx) (ts : TS) (δ : List En) (p : Po) : Prop := ∀ G H σ D, Slots K G σ δ → J K f s G H → Sat K f G D p → ts D σ H
section
variable {K : PySem.W.Frag} {f : Fx} {s : Sx} {δ : List En} {ta tb te : TE} {tt tu : TT} {P R : Sx → En → Prop} {t u : TS} {p : Po}
theorem sd_next (h : p.nx s δ) : SD K f s tNext δ p := fun G H σ D a b c => c.nx σ δ s G H (Ex.refl G) b a h
theorem sd_asg {i : Nat} (h : ED K f s te δ P) (k : ∀ s' x, P s' x → p.nx s' (δ.set i x)) : SD K f s (tAsg te (gName i)) δ p := fun G H σ D a b c => h G H σ _ a b fun v x s1 G1 H1 e1 j1 o1 p1 =>
  c.nx _ _ s1 G1 H1 e1 j1 (Slots.set (SOk.of o1) i (Slots.mono e1 a)) (k s1 x p1)
theorem sd_seq {M : Sx → List En → Prop} (h : SD K f s t δ { p with nx := M }) (k : ∀ s' δ', M s' δ' → SD K f s' u δ' p) : SD K f s (tSeq t u) δ p := fun G H σ D a b c =>
  h G H σ { D with nx := u D } a b ⟨fun σ δ s' G2 H2 e2 j2 sl m => k s' δ m G2 H2 σ D sl j2 (c.mono e2), c.rt, c.bk, c.ct⟩
theorem sd_asgS {i : Nat} (h : ED K f s te δ P) (k : ∀ s' x, P s' x → SD K f s' u (δ.set i x) p) : SD K f s (tSeq (tAsg te (gName i)) u) δ p :=
  sd_seq (M := fun s' δ' => ∃ x, P s' x ∧ δ' = δ.set i x) (sd_asg h fun s' x q => ⟨x, q, rfl⟩) fun s' δ' ⟨x, q, e⟩ => by
    subst e
    exact k s' x q
theorem sd_asgI {i : Nat} {x : En} (h : ED K f s te δ (Is s x)) (k : SD K f s u (δ.set i x) p) : SD K f s (tSeq (tAsg te (gName i)) u) δ p :=
  sd_asgS h fun s' x q => by
    obtain ⟨rfl, rfl⟩ := q
    exact k
theorem sd_ret (h : ED K f s te δ P) (k : ∀ s' x, P s' x → p.rt s' x) : SD K f s (tRet te) δ p := fun G H σ D a b c => h G H σ _ a b fun v x s1 G1 H1 e1 j1 o1 p1 => c.rt _ _ s1 G1 H1 e1 j1 o1 (k s1 x p1)
theorem sd_retI {x : En} (h : ED K f s te δ (Is s x)) (k : p.rt s x) : SD K f s (tRet te) δ p := sd_ret h fun s' x q => by
    obtain ⟨rfl, rfl⟩ := q
    exact k
theorem sd_drop (h : ED K f s te δ P) (k : ∀ s' x, P s' x → p.nx s' δ) : SD K f s (tDrop te) δ p := fun G H σ D a b c => h G H σ _ a b fun v x s1 G1 H1 e1 j1 o1 p1 => c.nx _ _ s1 G1 H1 e1 j1 (Slots.mono e1 a) (k s1 x p1)
theorem sd_if {PT : Sx → Bool → Prop} (h : ET K f s tt δ PT) (h1 : ∀ s1, PT s1 true → SD K f s1 t δ p) (h2 : ∀ s1, PT s1 false → SD K f s1 u δ p) : SD K f s (tIfS tt t u) δ p := fun G H σ D a b c => h G H σ _ a b fun v s1 G1 H1 e1 j1 p1 => by
  cases v with
  | true =>
    show t D σ H1
    exact h1 s1 p1 G1 H1 σ D (Slots.mono e1 a) j1 (c.mono e1)
  | false =>
    show u D σ H1
    exact h2 s1 p1 G1 H1 σ D (Slots.mono e1 a) j1 (c.mono e1)
/-- if c: .. (that leaves), then the rest -/
theorem sd_when {PT : Sx → Bool → Prop} (h : ET K f s tt δ PT) (h1 : ∀ s1, PT s1 true → SD K f s1 t δ { p with nx := fun _ _ => False }) (h2 : ∀ s1, PT s1 false → SD K f s1 u δ p) : SD K f s (tSeq (tIfS tt t tNext) u) δ p :=
  sd_seq (M := fun s' δ' => PT s' false ∧ δ' = δ) (sd_if h (fun s1 q => fun G H σ D a b c => h1 s1 q G H σ D a b ⟨fun _ _ _ _ _ _ _ _ z => z.elim, c.rt, c.bk, c.ct⟩) fun s1 q => sd_next ⟨q, rfl⟩) fun s' δ' ⟨q, e⟩ => by
    subst e
    exact h2 s' q
theorem sd_ifS {PT : Sx → Bool → Prop} {w : TS} (h : ET K f s tt δ PT) (h1 : ∀ s1, PT s1 true → SD K f s1 t δ { p with nx := fun s' δ' => SD K f s' w δ' p }) (h2 : ∀ s1, PT s1 false → SD K f s1 u δ { p with nx := fun s' δ' => SD K f s' w δ' p }) : SD K f s (tSeq (tIfS tt t u) w) δ p :=
  sd_seq (M := fun s' δ' => SD K f s' w δ' p) (sd_if h h1 h2) fun s' δ' q => q
/-- the test's answer is known -/
theorem sd_whenF (h : ET K f s tt δ (Is s false)) (h2 : SD K f s u δ p) : SD K f s (tSeq (tIfS tt t tNext) u) δ p :=
  sd_when h (fun s1 q => by cases q.2) fun s1 q => by
    obtain ⟨rfl, _⟩ := q
    exact h2
theorem sd_ifT {u : TS} (h : ET K f s tt δ (Is s true)) (h2 : SD K f s t δ p) : SD K f s (tIfS tt t u) δ p :=
  sd_if h (fun s1 q => by obtain ⟨rfl, _⟩ := q; exact h2) fun s1 q => by cases q.2
theorem sd_ifF (h : ET K f s tt δ (Is s false)) (h2 : SD K f s u δ p) : SD K f s (tIfS tt t u) δ p :=
  sd_if h (fun s1 q => by cases q.2) fun s1 q => by obtain ⟨rfl, _⟩ := q; exact h2
/-! ### loops -/
def pAt (K : PySem.W.Frag) (f : Fx) (G1 : Hp) (W : Sx → List En → Prop) (σ : St) (H : Hp) : Prop := ∃ s' δ' G', Ex G1 G' ∧ J K f s' G' H ∧ Slots K G' σ δ' ∧ W s' δ'
theorem sat_turn {G1 G' : Hp} {D : Ends} {p : Po} {W : Sx → List En → Prop} (c : Sat K f G1 D p) (e : Ex G1 G') : Sat K f G' { D with nx := pAt K f G1 W, ct := pAt K f G1 W, bk := D.nx } { p with nx := W, ct := W, bk := p.nx } where
  nx := fun σ δ s' G2 H2 e2 j2 sl q => ⟨s', δ, G2, e.trans e2, j2, sl, q⟩
  rt := fun v x s' G2 H2 e2 j2 o q => c.rt v x s' G2 H2 (e.trans e2) j2 o q
  bk := fun σ δ s' G2 H2 e2 j2 sl q => c.nx σ δ s' G2 H2 (e.trans e2) j2 sl q
  ct := fun σ δ s' G2 H2 e2 j2 sl q => ⟨s', δ, G2, e.trans e2, j2, sl, q⟩
theorem sd_forL {tl : TE} {ds : List PyData} {j : Nat} (h : ED K f s tl δ (Is s (.dat (.list ds)))) (W : Nat → Sx → List En → Prop) (h0 : W 0 s δ)
    (hs : ∀ i d s' δ', ds[i]? = some d → W i s' δ' → SD K f s' t (δ'.set j (.dat d)) { p with nx := W (i + 1), ct := W (i + 1), bk := p.nx }) (hd : ∀ s' δ', W ds.length s' δ' → p.nx s' δ') : SD K f s (tFor (iList K tl) (gName j) t) δ p := fun G H σ D a b c =>
  h G H σ _ a b fun v x s1 G1 H1 e1 j1 o1 p1 => by
    obtain ⟨rfl, rfl⟩ := p1
    cases o1 with
    | lst sq al =>
      rename_i ad xs
      refine ⟨ad, rfl, ⟨xs, ex_l j1.ex sq⟩, for_list (xs := xs) (fun i => pAt K f G1 (W i)) ⟨s1, δ, G1, Ex.refl G1, j1, Slots.mono e1 a, h0⟩ (fun i σ' H' _ hp => ?_) (fun i y σ' H' hy hp => ?_) (fun σ' H' hp => ?_)⟩
      · obtain ⟨s', δ', G', eg, jj, _⟩ := hp
        exact ex_l jj.ex (ex_l eg sq)
      · obtain ⟨s', δ', G', eg, jj, sl, w⟩ := hp
        obtain ⟨d, hd', od⟩ := dpa_getV al hy
        exact hs i d s' δ' hd' w G' H' _ _ (Slots.set (SOk.of (show Ok K G' y (.dat d) from dpMono eg od)) j sl) jj (sat_turn (c.mono e1) eg)
      · obtain ⟨s', δ', G', eg, jj, sl, w⟩ := hp
        rw [dpa_len al] at w
        exact c.nx σ' δ' s' G' H' (e1.trans eg) jj sl (hd s' δ' w)
theorem sd_forT {tl : TE} {ds : List PyData} {j : Nat} (h : ED K f s tl δ (Is s (.dat (.tuple ds)))) (W : Nat → Sx → List En → Prop) (h0 : W 0 s δ)
    (hs : ∀ i d s' δ', ds[i]? = some d → W i s' δ' → SD K f s' t (δ'.set j (.dat d)) { p with nx := W (i + 1), ct := W (i + 1), bk := p.nx }) (hd : ∀ s' δ', W ds.length s' δ' → p.nx s' δ') : SD K f s (tFor (iTup K tl) (gName j) t) δ p := fun G H σ D a b c =>
  h G H σ _ a b fun v x s1 G1 H1 e1 j1 o1 p1 => by
    obtain ⟨rfl, rfl⟩ := p1
    cases o1 with
    | tup sq al =>
      rename_i ad xs
      refine ⟨ad, rfl, ⟨xs, ex_t j1.ex sq⟩, for_tup (xs := xs) (fun i => pAt K f G1 (W i)) ⟨s1, δ, G1, Ex.refl G1, j1, Slots.mono e1 a, h0⟩ (fun i σ' H' _ hp => ?_) (fun i y σ' H' hy hp => ?_) (fun σ' H' hp => ?_)⟩
      · obtain ⟨s', δ', G', eg, jj, _⟩ := hp
        exact ex_t jj.ex (ex_t eg sq)
      · obtain ⟨s', δ', G', eg, jj, sl, w⟩ := hp
        obtain ⟨d, hd', od⟩ := dpa_getV al hy
        exact hs i d s' δ' hd' w G' H' _ _ (Slots.set (SOk.of (show Ok K G' y (.dat d) from dpMono eg od)) j sl) jj (sat_turn (c.mono e1) eg)
      · obtain ⟨s', δ', G', eg, jj, sl, w⟩ := hp
        rw [dpa_len al] at w
        exact c.nx σ' δ' s' G' H' (e1.trans eg) jj sl (hd s' δ' w)
theorem sd_forR {ta : TA} {n : Nat} {j : Nat} (h : EA K f s ta δ (Is s [.dat (.int (n : Int))])) (hn : n ≤ 100000) (W : Nat → Sx → List En → Prop) (h0 : W 0 s δ)
    (hs : ∀ i s' δ', i < n → W i s' δ' → SD K f s' t (δ'.set j (.dat (.int (i : Int)))) { p with nx := W (i + 1), ct := W (i + 1), bk := p.nx }) (hd : ∀ s' δ', W n s' δ' → p.nx s' δ') : SD K f s (tFor (iRng1 ta) (gName j) t) δ p := fun G H σ D a b c =>
  h G H σ _ a b fun vs xs s1 G1 H1 e1 j1 o1 p1 => by
    obtain ⟨rfl, rfl⟩ := p1
    cases o1 with
    | cons o1 o2 =>
      cases o2
      cases o1
      refine ⟨n, rfl, by omega, by omega, for_range (lo := 0) (n := ((n : Int)).toNat) (fun i => pAt K f G1 (W i)) ⟨s1, δ, G1, Ex.refl G1, j1, Slots.mono e1 a, h0⟩ (fun i σ' H' hi hp => ?_) (fun σ' H' hp => ?_)⟩
      · obtain ⟨s', δ', G', eg, jj, sl, w⟩ := hp
        have e0 : (0 : Int) + (i : Int) = (i : Int) := Int.zero_add _
        have q := hs i s' δ' (by omega) w G' H' (σ'.set j (some (.int (i : Int)))) { D with nx := pAt K f G1 (W (i + 1)), ct := pAt K f G1 (W (i + 1)), bk := D.nx } (Slots.set (SOk.of (show Ok K G' (.int (i : Int)) (.dat (.int (i : Int))) from .int _)) j sl) jj (sat_turn (c.mono e1) eg)
        show t _ (σ'.set j (some (.int ((0 : Int) + (i : Int))))) H'
        rw [e0]
        exact q
      · obtain ⟨s', δ', G', eg, jj, sl, w⟩ := hp
        rw [Int.toNat_natCast] at w
        exact c.nx σ' δ' s' G' H' (e1.trans eg) jj sl (hd s' δ' w)
theorem sd_while (W : Nat → Sx → List En → Prop) (m0 : Nat) (h0 : W m0 s δ)
    (hs : ∀ m s' δ', W m s' δ' → ∃ b, ET K f s' tt δ' (Is s' b) ∧ (b = true → SD K f s' t δ' { p with nx := fun s2 δ2 => ∃ m', m' < m ∧ W m' s2 δ2, ct := fun s2 δ2 => ∃ m', m' < m ∧ W m' s2 δ2, bk := p.nx }) ∧ (b = false → p.nx s' δ')) : SD K f s (tWhile tt t) δ p := fun G H σ D a b c => by
  refine ⟨fun m => pAt K f G (W m), ⟨m0, s, δ, G, Ex.refl G, b, a, h0⟩, fun m σ' H' hp => ?_⟩
  obtain ⟨s', δ', G', eg, jj, sl, w⟩ := hp
  obtain ⟨bb, h1, h2, h3⟩ := hs m s' δ' w
  refine h1 G' H' σ' _ sl jj fun v s2 G2 H2 e2 j2 q => ?_
  obtain ⟨rfl, rfl⟩ := q
  cases v with
  | true =>
    refine ⟨pAt K f G (fun s2 δ2 => ∃ m', m' < m ∧ W m' s2 δ2), fun σ3 H3 h3 => ?_, ?_⟩
    · obtain ⟨s3, δ3, G3, e3, j3, sl3, m', hm, w3⟩ := h3
      exact ⟨m', hm, s3, δ3, G3, e3, j3, sl3, w3⟩
    · exact h2 rfl G2 H2 σ' _ (Slots.mono e2 sl) j2 (sat_turn c (eg.trans e2))
  | false => exact c.nx σ' δ' s2 G2 H2 (eg.trans e2) j2 (Slots.mono e2 sl) (h3 rfl)
end
end Dl

namespace Dl
open PySem L2 Evl
/-! ### comprehensions -/
def lcE (ft : PyData → Bool) (g : PyData → PyData) (ds : List PyData) : List En := ((ds.filter ft).map g).map .dat
theorem lcE_yes {ft : PyData → Bool} {g : PyData → PyData} {ds : List PyData} {i : Nat} {d : PyData} (e : ds[i]? = some d) (h : ft d = true) : lcE ft g (ds.take (i + 1)) = lcE ft g (ds.take i) ++ [.dat (g d)] := by
  unfold lcE
  rw [List.take_add_one, e]
  simp [h]
theorem lcE_no {ft : PyData → Bool} {g : PyData → PyData} {ds : List PyData} {i : Nat} {d : PyData} (e : ds[i]? = some d) (h : ft d = false) : lcE ft g (ds.take (i + 1)) = lcE ft g (ds.take i) := by
  unfold lcE
  rw [List.take_add_one, e]
  simp [h]
theorem lcE_len (ft : PyData → Bool) (g : PyData → PyData) (ds : List PyData) : (lcE ft g ds).length ≤ ds.length := by
  unfold lcE
  rw [List.length_map, List.length_map]
  exact List.length_filter_le _ _
theorem wipe1 {σ : St} {j : Nat} {y : Option V} : wipe ((wipe σ [j]).set j y) [j] = wipe σ [j] := by
  show (((σ.set j none).set j y).set j none) = σ.set j none
  rw [List.set_set, List.set_set]
section
variable {K : PySem.W.Frag} {f : Fx} {s : Sx} {δ : List En} {ta tb te tl : TE} {tt tu : TT} {P R : Sx → En → Prop} {t u : TS} {p : Po}
def lcAt (K : PySem.W.Frag) (f : Fx) (s : Sx) (G1 : Hp) (Dl : Addr) (es : List En) (H : Hp) : Prop := ∃ G', Ex G1 G' ∧ J K f ⟨s.n, (Dl, es) :: s.own⟩ G' H
theorem lc_turn {G1 H : Hp} {σ2 : St} {δ2 : List En} {Dl : Addr} {ft : PyData → Bool} {g : PyData → PyData} {ds : List PyData} {i : Nat} {d : PyData} (hl : ds.length ≤ 90000) (e : ds[i]? = some d) (h : lcAt K f s G1 Dl (lcE ft g (ds.take i)) H)
    (sl : ∀ G', Ex G1 G' → Slots K G' σ2 δ2) (ht : ∀ s', ET K f s' tt δ2 (Is s' (ft d))) (he : ft d = true → ∀ s', ED K f s' te δ2 (Is s' (.dat (g d)))) :
    tt σ2 H fun b H3 => if b = true then te σ2 H3 fun y H4 => ∃ acc, H4 Dl = some (.lst acc) ∧ acc.length < sizeLine ∧ lcAt K f s G1 Dl (lcE ft g (ds.take (i + 1))) (upd H4 Dl (.lst (acc ++ [y]))) else lcAt K f s G1 Dl (lcE ft g (ds.take (i + 1))) H3 := by
  obtain ⟨G', eg, jj⟩ := h
  refine ht _ G' H σ2 _ (sl G' eg) jj fun b s1 G2 H2 e2 j2 q => ?_
  obtain ⟨rfl, rfl⟩ := q
  cases hf : ft d with
  | true =>
    refine iteT (he hf _ G2 H2 σ2 _ (sl G2 (eg.trans e2)) j2 fun y x s2 G3 H3 e3 j3 o3 q3 => ?_)
    obtain ⟨rfl, rfl⟩ := q3
    obtain ⟨a1, a2, a3, acc, a4, a5⟩ := j3.own Dl _ (List.mem_cons_self ..)
    refine ⟨acc, a4, sz_lt ?_, G3, (eg.trans e2).trans e3, ?_⟩
    · rw [a5.len]
      have := lcE_len ft g (ds.take i)
      rw [List.length_take] at this
      omega
    · rw [lcE_yes e hf]
      exact j3.ownSet (Vs.app a5 o3)
  | false =>
    refine iteF ⟨G2, eg.trans e2, ?_⟩
    rw [lcE_no e hf]
    exact j2
theorem lc_end {G1 H : Hp} {Q : VK} {Dl : Addr} {ft : PyData → Bool} {g : PyData → PyData} {ds : List PyData} {G : Hp} (eG : Ex G G1) (h : lcAt K f s G1 Dl (lcE ft g ds) H)
    (k : ∀ w z s' G2 H2, Ex G G2 → J K f s' G2 H2 → Ok K G2 w z → Is s (.dat (.list ((ds.filter ft).map g))) s' z → Q w H2) : Q (.ref Dl) H := by
  obtain ⟨G', eg, jj⟩ := h
  obtain ⟨xs, j2, v, hg, hx⟩ := jj.ownEnd
  have e2 : Ex G' (upd G' Dl (.lst xs)) := Ex.new hg
  exact fN k ((eG.trans eg).trans e2) j2 (.lst (sq_of upd_same) (dpaMono e2 (Vs.dpa v)))
theorem ed_lcT {ds : List PyData} {j : Nat} (ft : PyData → Bool) (g : PyData → PyData) (h : ED K f s tl δ (Is s (.dat (.tuple ds)))) (hl : ds.length ≤ 90000)
    (ht : ∀ d, d ∈ ds → ∀ s', ET K f s' tt ((wipeE δ [j]).set j (.dat d)) (Is s' (ft d))) (he : ∀ d, d ∈ ds → ft d = true → ∀ s', ED K f s' te ((wipeE δ [j]).set j (.dat d)) (Is s' (.dat (g d)))) :
    ED K f s (tLc (iTup K tl) (gName j) tt te [j]) δ (Is s (.dat (.list ((ds.filter ft).map g)))) := fun G H σ Q a b c =>
  h G H σ _ a b fun v x s1 G1 H1 e1 j1 o1 p1 => by
    obtain ⟨rfl, rfl⟩ := p1
    cases o1 with
    | tup sq al =>
      rename_i ad xs
      refine ⟨ad, rfl, ⟨xs, ex_t j1.ex sq⟩, fun Dl hD => lc_tup (xs := xs) (fun i => lcAt K f s1 G1 Dl (lcE ft g (ds.take i))) ⟨G1, Ex.refl G1, j1.ownNew hD .nil⟩ (fun i H' _ hp => ?_) (fun i y H' hy hp => ⟨wipe1, ?_⟩) (fun H' hp => ?_)⟩
      · obtain ⟨G', eg, jj⟩ := hp
        exact ex_t jj.ex (ex_t eg sq)
      · obtain ⟨d, hd', od⟩ := dpa_getV al hy
        exact lc_turn hl hd' hp (fun G' eg => Slots.set (SOk.of (show Ok K G' y (.dat d) from dpMono eg od)) j (Slots.wipe (Slots.mono (e1.trans eg) a) [j])) (ht d (List.mem_of_getElem? hd')) (he d (List.mem_of_getElem? hd'))
      · rw [dpa_len al, List.take_length] at hp
        exact lc_end e1 hp c
theorem ed_lcL {ds : List PyData} {j : Nat} (ft : PyData → Bool) (g : PyData → PyData) (h : ED K f s tl δ (Is s (.dat (.list ds)))) (hl : ds.length ≤ 90000)
    (ht : ∀ d, d ∈ ds → ∀ s', ET K f s' tt ((wipeE δ [j]).set j (.dat d)) (Is s' (ft d))) (he : ∀ d, d ∈ ds → ft d = true → ∀ s', ED K f s' te ((wipeE δ [j]).set j (.dat d)) (Is s' (.dat (g d)))) :
    ED K f s (tLc (iList K tl) (gName j) tt te [j]) δ (Is s (.dat (.list ((ds.filter ft).map g)))) := fun G H σ Q a b c =>
  h G H σ _ a b fun v x s1 G1 H1 e1 j1 o1 p1 => by
    obtain ⟨rfl, rfl⟩ := p1
    cases o1 with
    | lst sq al =>
      rename_i ad xs
      refine ⟨ad, rfl, ⟨xs, ex_l j1.ex sq⟩, fun Dl hD => lc_list (xs := xs) (fun i => lcAt K f s1 G1 Dl (lcE ft g (ds.take i))) ⟨G1, Ex.refl G1, j1.ownNew hD .nil⟩ (fun i H' _ hp => ?_) (fun i y H' hy hp => ⟨wipe1, ?_⟩) (fun H' hp => ?_)⟩
      · obtain ⟨G', eg, jj⟩ := hp
        exact ex_l jj.ex (ex_l eg sq)
      · obtain ⟨d, hd', od⟩ := dpa_getV al hy
        exact lc_turn hl hd' hp (fun G' eg => Slots.set (SOk.of (show Ok K G' y (.dat d) from dpMono eg od)) j (Slots.wipe (Slots.mono (e1.trans eg) a) [j])) (ht d (List.mem_of_getElem? hd')) (he d (List.mem_of_getElem? hd'))
      · rw [dpa_len al, List.take_length] at hp
        exact lc_end e1 hp c
def rngD (n : Nat) : List PyData := (List.range n).map fun (i : Nat) => PyData.int (i : Int)
theorem rngD_len (n : Nat) : (rngD n).length = n := by unfold rngD; rw [List.length_map, List.length_range]
theorem rngD_get {n i : Nat} (h : i < n) : (rngD n)[i]? = some (.int (i : Int)) := by
  unfold rngD
  rw [List.getElem?_map, List.getElem?_range h]
  rfl
theorem ed_lcR {ta : TA} {n j : Nat} (ft : PyData → Bool) (g : PyData → PyData) (h : EA K f s ta δ (Is s [.dat (.int (n : Int))])) (hl : n ≤ 90000)
    (ht : ∀ d, d ∈ rngD n → ∀ s', ET K f s' tt ((wipeE δ [j]).set j (.dat d)) (Is s' (ft d))) (he : ∀ d, d ∈ rngD n → ft d = true → ∀ s', ED K f s' te ((wipeE δ [j]).set j (.dat d)) (Is s' (.dat (g d)))) :
    ED K f s (tLc (iRng1 ta) (gName j) tt te [j]) δ (Is s (.dat (.list (((rngD n).filter ft).map g)))) := fun G H σ Q a b c =>
  h G H σ _ a b fun v x s1 G1 H1 e1 j1 o1 p1 => by
    obtain ⟨rfl, rfl⟩ := p1
    cases o1 with
    | cons o1 o2 =>
      cases o2
      cases o1
      refine ⟨n, rfl, by omega, by omega, fun Dl hD => lc_range (lo := 0) (n := ((n : Int)).toNat) (fun i => lcAt K f s1 G1 Dl (lcE ft g ((rngD n).take i))) ⟨G1, Ex.refl G1, j1.ownNew hD .nil⟩ (fun i H' hi hp => ?_) (fun H' hp => ?_)⟩
      · have e0 : (0 : Int) + (i : Int) = (i : Int) := Int.zero_add _
        have hd' := rngD_get (n := n) (i := i) (by omega)
        have q := lc_turn (σ2 := (wipe σ [j]).set j (some (.int (i : Int)))) (tt := tt) (te := te) (by rw [rngD_len]; exact hl) hd' hp (fun G' eg => Slots.set (SOk.of (show Ok K G' (.int (i : Int)) (.dat (.int (i : Int))) from .int _)) j (Slots.wipe (Slots.mono (e1.trans eg) a) [j])) (ht _ (List.mem_of_getElem? hd')) (he _ (List.mem_of_getElem? hd'))
        show wipe ((wipe σ [j]).set j (some (.int ((0 : Int) + (i : Int))))) [j] = wipe σ [j] ∧ tt ((wipe σ [j]).set j (some (.int ((0 : Int) + (i : Int))))) H' _
        rw [e0]
        exact ⟨wipe1, q⟩
      · rw [Int.toNat_natCast, List.take_of_length_le (by rw [rngD_len]; exact Nat.le_refl _)] at hp
        exact lc_end e1 hp c
theorem et_yes : ET K f s tYes δ (Is s true) := fun G H σ Q a b c => c true s G H (Ex.refl G) b ⟨rfl, rfl⟩
theorem filter_all (ds : List PyData) : ds.filter (fun _ => true) = ds := by simp
/-- without a test -/
theorem ed_lcT1 {ds : List PyData} {j : Nat} (g : PyData → PyData) (h : ED K f s tl δ (Is s (.dat (.tuple ds)))) (hl : ds.length ≤ 90000)
    (he : ∀ d, d ∈ ds → ∀ s', ED K f s' te ((wipeE δ [j]).set j (.dat d)) (Is s' (.dat (g d)))) : ED K f s (tLc (iTup K tl) (gName j) tYes te [j]) δ (Is s (.dat (.list (ds.map g)))) := by
  have q := ed_lcT (tt := tYes) (te := te) (j := j) (fun _ => true) g h hl (fun _ _ _ => et_yes) (fun d m _ => he d m)
  rw [filter_all] at q
  exact q
theorem ed_lcL1 {ds : List PyData} {j : Nat} (g : PyData → PyData) (h : ED K f s tl δ (Is s (.dat (.list ds)))) (hl : ds.length ≤ 90000)
    (he : ∀ d, d ∈ ds → ∀ s', ED K f s' te ((wipeE δ [j]).set j (.dat d)) (Is s' (.dat (g d)))) : ED K f s (tLc (iList K tl) (gName j) tYes te [j]) δ (Is s (.dat (.list (ds.map g)))) := by
  have q := ed_lcL (tt := tYes) (te := te) (j := j) (fun _ => true) g h hl (fun _ _ _ => et_yes) (fun d m _ => he d m)
  rw [filter_all] at q
  exact q
theorem ed_lcR1 {ta : TA} {n j : Nat} (g : PyData → PyData) (h : EA K f s ta δ (Is s [.dat (.int (n : Int))])) (hl : n ≤ 90000)
    (he : ∀ d, d ∈ rngD n → ∀ s', ED K f s' te ((wipeE δ [j]).set j (.dat d)) (Is s' (.dat (g d)))) : ED K f s (tLc (iRng1 ta) (gName j) tYes te [j]) δ (Is s (.dat (.list ((rngD n).map g)))) := by
  have q := ed_lcR (tt := tYes) (te := te) (j := j) (fun _ => true) g h hl (fun _ _ _ => et_yes) (fun d m _ => he d m)
  rw [filter_all] at q
  exact q
/-! ### defs of data alone -/
def spP (K : PySem.W.Frag) (A : List En → Prop) (R : List En → En → Prop) : Sp := fun vs H Q _ => ∃ G es, Ex G H ∧ TF G ∧ Vs K G vs es ∧ A es ∧ ∀ v x G2 H2, Ex G G2 → Ex G2 H2 → Ex H H2 → (∀ b, G2 b ≠ none → G b = none → H b = none) → TF G2 → Ok K G2 v x → R es x → Q v H2
theorem sp_use {A : List En → Prop} {R : List En → En → Prop} {G H : Hp} {vs : List V} {es : List En} {Q : VK} {E : XK} {s : Sx} {P : Sx → En → Prop} (jj : J K f s G H) (v : Vs K G vs es) (a : A es) (i : ∀ x, R es x → P s x)
    (k : ∀ w z s' G2 H2, Ex G G2 → J K f s' G2 H2 → Ok K G2 w z → P s' z → Q w H2) : spP K A R vs H Q E :=
  ⟨G, es, jj.ex, jj.tf, v, a, fun w x G2 H2 e1 e2 e3 fr t2 o r => k w x s G2 H2 e1 (jj.pure e1 e2 e3 fr t2) o (i x r)⟩
theorem ed_call {A : List En → Prop} {R : List En → En → Prop} {E : XK} {t : TA} {es : List En} {P : Sx → En → Prop} (h : EA K f s t δ (Is s es)) (a : A es) (i : ∀ x, R es x → P s x) : ED K f s (tCall (spP K A R) [] E t) δ P := fun G H σ Q sl b c =>
  h G H σ _ sl b fun vs xs s1 G1 H1 e1 j1 o1 p1 => by
    obtain ⟨rfl, rfl⟩ := p1
    rw [List.append_nil]
    exact sp_use j1 o1 a i fun w z s3 G3 H3 e3 j3 o3 p3 => c w z s3 G3 H3 (e1.trans e3) j3 o3 p3
/-- a def that tells just one thing of what is handed in -/
def fn1 (F : List En → En) : List En → En → Prop := fun es x => x = F es
theorem ed_call1 {A : List En → Prop} {F : List En → En} {E : XK} {t : TA} {es : List En} (h : EA K f s t δ (Is s es)) (a : A es) : ED K f s (tCall (spP K A (fn1 F)) [] E t) δ (Is s (F es)) := ed_call h a fun x r => ⟨rfl, r⟩
/-- .. by keywords: gE tells the order -/
theorem ed_callK {A : List En → Prop} {R : List En → En → Prop} {E : XK} {t tk : TA} {gV : List V → List V → List V} {es fs : List En} {P : Sx → En → Prop} (h : EA K f s t δ (Is s es)) (hk : EA K f s tk δ (Is s fs)) (gs : List En)
    (hg : ∀ G vs zs, Vs K G vs es → Vs K G zs fs → Vs K G (gV vs zs) gs) (a : A gs) (i : ∀ x, R gs x → P s x) : ED K f s (tCallK (spP K A R) gV E t tk) δ P := fun G H σ Q sl b c =>
  h G H σ _ sl b fun vs xs s1 G1 H1 e1 j1 o1 p1 => by
    obtain ⟨rfl, rfl⟩ := p1
    refine hk G1 H1 σ _ (Slots.mono e1 sl) j1 fun zs ys s2 G2 H2 e2 j2 o2 p2 => ?_
    obtain ⟨rfl, rfl⟩ := p2
    exact sp_use j2 (hg G2 vs zs (Vs.mono e2 o1) o2) a i fun w z s3 G3 H3 e3 j3 o3 p3 => c w z s3 G3 H3 ((e1.trans e2).trans e3) j3 o3 p3
theorem run_pure {A : List En → Prop} {R : List En → En → Prop} {N : List Str} {vs : List V} {H : Hp} {Q : VK} {E : XK} (h : spP K A R vs H Q E)
    (hb : ∀ f s es, A es → SD K f s t (es ++ List.replicate (N.length - es.length) .no) ⟨fun _ _ => R es (.dat .none), fun _ x => R es x, fun _ _ => False, fun _ _ => False⟩) : t { nx := fun _ H' => Q .non H', rt := Q } (start N vs) H := by
  obtain ⟨G, es, e, tf, v, a, k⟩ := h
  have jj : J K ⟨none, H, G⟩ ⟨0, []⟩ G H := ⟨e, (fun D es m => by cases m), List.nodup_nil, (fun p c z => by cases z), fun b o _ z => z, Ex.refl G, fun b h1 h2 => absurd h2 h1, tf⟩
  have np : ∀ b, ¬ isPu (⟨none, H, G⟩ : Fx) b := fun b ⟨p, c, z, _⟩ => by cases z
  have sl : Slots K G (start N vs) (es ++ List.replicate (N.length - es.length) .no) := by
    unfold L2.start
    rw [v.len]
    exact Slots.start v _
  refine hb ⟨none, H, G⟩ ⟨0, []⟩ es a G H _ _ sl jj ⟨fun σ δ s' G2 H2 e2 j2 _ r => ?_, fun w x s' G2 H2 e2 j2 o r => ?_, fun _ _ _ _ _ _ _ _ z => z.elim, fun _ _ _ _ _ _ _ _ z => z.elim⟩
  · exact k .non (.dat .none) G2 H2 e2 j2.ex (fun b o z => j2.fr b o (np b) z) j2.fs j2.tf .non r
  · exact k w x G2 H2 e2 j2.ex (fun b o z => j2.fr b o (np b) z) j2.fs j2.tf o r
theorem spP_len {A : List En → Prop} {R : List En → En → Prop} {n : Nat} (hA : ∀ es, A es → es.length = n) (vs : List V) (H : Hp) (Q : VK) (E : XK) (h : spP K A R vs H Q E) : vs.length = n := by
  obtain ⟨G, es, _, _, v, a, _⟩ := h
  rw [v.len, hA es a]
theorem TF.only {H : Hp} (h : Only H) : TF H := fun b => by
  rcases h b with e | ⟨o, xs, e⟩
  · exact ⟨fun xs z => by (rw [e] at z; cases z), fun o xs z => by (rw [e] at z; cases z)⟩
  · exact ⟨fun xs z => by (rw [e] at z; cases z), fun o xs z => by (rw [e] at z; cases z)⟩
/-! ### draws -/
def spDraw : Sp := fun vs H Q _ => ∃ (p c : Addr) (n : Nat) (m : Int), vs = [.ref p, .int m] ∧ PurseAt H p c (n + 1) ∧ 1 ≤ m ∧ m ≤ 2 ^ 4000 ∧
  ∀ (r : Int) H', 0 ≤ r → r < m → PurseAt H' p c n → (∀ b o, b ≠ p → b ≠ c → H b = some o → H' b = some o) → Q (.int r) H'
def Drawn (n : Nat) (w : List (Addr × List En)) (m : Int) : Sx → En → Prop := fun s' x => s' = ⟨n, w⟩ ∧ ∃ r : Int, 0 ≤ r ∧ r < m ∧ x = .dat (.int r)
theorem ed_draw {n : Nat} {w : List (Addr × List En)} {p c : Addr} {i : Nat} {m : Int} {E : XK} (hf : f.pu = some (p, c)) (hi : δ[i]? = some (.val (.ref p))) (h : ED K f ⟨n + 1, w⟩ te δ (Is ⟨n + 1, w⟩ (.dat (.int m)))) (h1 : 1 ≤ m) (h2 : m ≤ 2 ^ 4000) :
    ED K f ⟨n + 1, w⟩ (tCall spDraw [] E (tCons (tVar i) (tCons te tNil))) δ (Drawn n w m) := fun G H σ Q sl b k =>
  (ea_cons (ed_var hi) (ea_cons h ea_nil)) G H σ _ sl b fun vs xs s1 G1 H1 e1 j1 o1 p1 => by
    obtain ⟨rfl, rfl⟩ := p1
    cases o1 with
    | cons o1 o2 =>
      cases o2 with
      | cons o2 o3 =>
        cases o3
        cases (show _ = V.ref p from o1)
        cases o2
        refine ⟨p, c, n, m, rfl, (j1.pu p c hf).2.2.2.2, h1, h2, fun r H' r0 r1 u kp => ?_⟩
        exact k _ (.dat (.int r)) _ G1 H' e1 (j1.draw hf kp u) (.int r) ⟨rfl, r, r0, r1, rfl⟩
/-- the law's own start: the purse is made -/
def spPurse (K : PySem.W.Frag) : Sp := fun vs H Q _ => ∃ (a : Addr) (ns : List Int), vs = [.ref a] ∧ SqL K H a (ns.map V.int) ∧ ns.length ≤ 63 ∧
  ∀ p c H', H p = none → H c = none → p ≠ c → Ex H H' → PurseAt H' p c (2 ^ 60) → Q (.ref p) H'
theorem run_law {N : List Str} {a : Addr} {ns : List Int} {H : Hp} {Q : VK} {E : XK} {n : Nat} (hS : SqL K H a (ns.map V.int)) (hT : TF H) (hl : ns.length ≤ 63) (hN : N.length = n + 2)
    (hb : ∀ f p c, f.pu = some (p, c) → SD K f ⟨2 ^ 60, []⟩ t (.no :: .val (.ref p) :: List.replicate n .no) ⟨fun _ _ => False, fun _ x => x = .dat (.bool true), fun _ _ => False, fun _ _ => False⟩) (hQ : ∀ H', Q (.bl true) H') :
    (tSeq (tAsg (tCall (spPurse K) [] E (tCons (tVar 0) tNil)) (gName 1)) t) { nx := fun _ H' => Q .non H', rt := Q } (start N [.ref a]) H := by
  unfold L2.start
  rw [hN]
  refine ⟨.ref a, rfl, a, ns, rfl, hS, hl, fun p c H1 hp hc hne e1 pu => ?_⟩
  have j1 : J K ⟨some (p, c), H1, H⟩ ⟨2 ^ 60, []⟩ H H1 := ⟨e1, (fun D es m => by cases m), List.nodup_nil, (fun p' c' z => by
      cases z
      obtain ⟨cs, t, x, y, _⟩ := pu.ex
      exact ⟨hp, hc, (by show H1 p ≠ none; rw [x]; simp), (by show H1 c ≠ none; rw [y]; simp), pu⟩), fun b o _ z => z, Ex.refl H, fun b h1 h2 => absurd h2 h1, hT⟩
  refine hb ⟨some (p, c), H1, H⟩ p c rfl H H1 _ _ ?_ j1 ⟨fun _ _ _ _ _ _ _ _ z => z.elim, fun v x s' G2 H2 _ _ o z => ?_, fun _ _ _ _ _ _ _ _ z => z.elim, fun _ _ _ _ _ _ _ _ z => z.elim⟩
  · show Slots K H (some (.ref a) :: some (.ref p) :: List.replicate n none) _
    refine .cons trivial (.cons rfl ?_)
    clear hN hb
    induction n with
    | zero => exact .nil
    | succ n ih => exact .cons trivial ih
  · subst z
    cases o
    exact hQ H2
end
end Dl

namespace Dl
open PySem L2 Evl
def CPowX (i j : Int) : Prop := 0 ≤ j ∧ (Builtin.Int.intBits i : Int) * j ≤ 2 ^ 27
theorem op_powX {X : Cx} : OpR X (binaryOp .Pow) (rI CPowX fun i j => .int (i ^ j.toNat)) := opI fun _ _ _ _ _ _ _ hc q => PyProof.Rows.pow_int hc.1 hc.2 q
theorem dpa_of_ints {K : PySem.W.Frag} {G : Hp} : ∀ ns : List Int, DpAll K G (ns.map V.int) (ns.map .int)
  | [] => .nil
  | n :: ns => .cons (.int n) (dpa_of_ints ns)
theorem lay_ints : ∀ ns : List Int, PyData.canLayAll0 (ns.map .int) = true
  | [] => by simp [PyData.canLayAll0]
  | n :: ns => by simp [PyData.canLayAll0, PyData.canLay0, lay_ints ns]
theorem depth_ints : ∀ ns : List Int, PyData.depthAll (ns.map .int) ≤ 1
  | [] => by simp [PyData.depthAll]
  | n :: ns => by
    have := depth_ints ns
    simp [PyData.depthAll, PyData.depth] at this ⊢
    omega
theorem shaped_ints (ns : List Int) : SeqAt.shaped (.list (ns.map .int)) = true := by
  have := depth_ints ns
  unfold SeqAt.shaped
  rw [Bool.and_eq_true, decide_eq_true_eq]
  refine ⟨?_, ?_⟩
  · simp [PyData.canLay0, lay_ints ns]
  · simp only [PyData.depth]
    omega
theorem shaped_tints (ns : List Int) : SeqAt.shaped (.tuple (ns.map .int)) = true := by
  have := depth_ints ns
  unfold SeqAt.shaped
  rw [Bool.and_eq_true, decide_eq_true_eq]
  refine ⟨?_, ?_⟩
  · simp [PyData.canLay0, lay_ints ns]
  · simp only [PyData.depth]
    omega
end Dl

namespace Dl
open PySem L2 Evl
/-! ### a table of the module whose keys are tuples of ints -/
def intsOf : List Value → Option (List Int)
  | [] => some []
  | .int i _ :: r => (intsOf r).map (i :: ·)
  | _ :: _ => none
theorem intsOf_vals : ∀ {vs : List Value} {ns : List Int}, intsOf vs = some ns → Vals (ns.map V.int) vs
  | [], _, e => by cases e; exact .nil
  | .int i t :: r, ns, e => by
    cases h : intsOf r with
    | none => simp [intsOf, h] at e
    | some q =>
      simp only [intsOf, h, Option.map_some, Option.some.injEq] at e
      subst e
      exact .cons ⟨t, rfl⟩ (intsOf_vals h)
  | .none :: _, _, e => by simp [intsOf] at e
  | .bool _ :: _, _, e => by simp [intsOf] at e
  | .str _ _ :: _, _, e => by simp [intsOf] at e
  | .ref _ :: _, _, e => by simp [intsOf] at e
  | .type _ :: _, _, e => by simp [intsOf] at e
  | .builtin _ :: _, _, e => by simp [intsOf] at e
  | .float _ _ :: _, _, e => by simp [intsOf] at e
  | .bytes _ _ :: _, _, e => by simp [intsOf] at e
  | .ellipsis :: _, _, e => by simp [intsOf] at e
  | .notImplemented :: _, _, e => by simp [intsOf] at e
theorem items_of_vals {P : Program} {w : World} : ∀ {ns : List Int} {vs : List Value}, Vals (ns.map V.int) vs → ItemsAre (intKind P w) ns vs
  | [], _, h => by cases h; exact .nil
  | n :: ns, _, h => by
    cases h with
    | cons a b =>
      obtain ⟨t, rfl⟩ := a
      exact .cons (by simp [intKind, Value.isInt]) (items_of_vals b)
def isStrVal (v : Value) (x : Str) : Bool := match v with
  | .str y _ => y == x
  | _ => false
/-- a tuple of ints of the written part -/
def tupInK (K : PySem.W.Frag) (a : Addr) (ns : List Int) : Bool := match K.lookup a with
  | some o => (match o.cls with | .type n => n == "tuple" | _ => false) && (match o.data with | .seq its _ => (intsOf its.toList == some ns) && decide (its.size ≤ 1000) | _ => false)
  | none => false
theorem tupInK_sq {K : PySem.W.Frag} {a : Addr} {ns : List Int} (h : tupInK K a ns = true) (H : Hp) : SqT K H a (ns.map V.int) := by
  unfold tupInK at h
  split at h
  · rename_i o e
    obtain ⟨h1, h2⟩ := Bool.and_eq_true_iff.mp h
    split at h1
    · rename_i n hc
      split at h2
      · rename_i its m hd
        obtain ⟨h3, h4⟩ := Bool.and_eq_true_iff.mp h2
        refine .inr ⟨o, its, m, e, by rw [hc, beq_iff_eq.mp h1], hd, Nat.le_trans (of_decide_eq_true h4) (by decide), intsOf_vals (beq_iff_eq.mp h3)⟩
      · cases h2
    · cases h1
  · cases h
theorem dpT {K : PySem.W.Frag} {a : Addr} {ns : List Int} (h : tupInK K a ns = true) (G : Hp) : Dp K G (.ref a) (.tuple (ns.map .int)) := .tup (tupInK_sq h G) (dpa_of_ints ns)
def entOk (K : PySem.W.Frag) (e : DictEntry) (y : List Int × Str) : Bool := match e.key with
  | .ref a => isStrVal e.val y.2 && (e.hash == reduceHash (Builtin.Tuple.tupleHashOf (y.1.map hashInt))) && tupInK K a y.1
  | _ => false
def tabAll (K : PySem.W.Frag) : List DictEntry → List (List Int × Str) → Bool
  | [], [] => true
  | e :: es, y :: ys => entOk K e y && tabAll K es ys
  | _, _ => false
def tabOk (K : PySem.W.Frag) (d : Addr) (tab : List (List Int × Str)) : Bool := match K.lookup d with
  | some o => (match o.cls with | .type n => n == "dict" | _ => false) && o.dict.isNone && o.slots.isEmpty && (match o.data with | .dict es _ => tabAll K es.toList tab | _ => false) && decide (tab.length ≤ 1000) && (d != sysModules)
  | none => false
def TabRel (K : PySem.W.Frag) (x : List Int × Addr × Value) (y : List Int × Str) : Prop := x.1 = y.1 ∧ (∃ t, x.2.2 = .str y.2 t) ∧ tupInK K x.2.1 y.1 = true
theorem tabAll_rel {K : PySem.W.Frag} {P : Program} {w : World} : ∀ {es : List DictEntry} {tab : List (List Int × Str)}, tabAll K es tab = true → ∃ xs, es = xs.map (entryOfKey (tupleKind (intKind P w))) ∧ Paired (TabRel K) xs tab
  | [], [], _ => ⟨[], rfl, .nil⟩
  | e :: es, y :: ys, h => by
    obtain ⟨h1, h2⟩ := Bool.and_eq_true_iff.mp h
    obtain ⟨xs, e1, r⟩ := tabAll_rel (P := P) (w := w) h2
    unfold entOk at h1
    split at h1
    · rename_i a ha
      obtain ⟨h3, h5⟩ := Bool.and_eq_true_iff.mp h1
      obtain ⟨h3, h4⟩ := Bool.and_eq_true_iff.mp h3
      refine ⟨(y.1, a, e.val) :: xs, ?_, .cons ⟨rfl, ?_, h5⟩ r⟩
      · rw [List.map_cons, e1]
        congr 1
        unfold entryOfKey
        cases e
        simp only at ha h4 ⊢
        subst ha
        rw [beq_iff_eq.mp h4]
        rfl
      · unfold isStrVal at h3
        split at h3
        · rename_i x t hv
          exact ⟨t, by rw [show e.val = _ from hv, beq_iff_eq.mp h3]⟩
        · cases h3
    · cases h1
  | [], _ :: _, h => by cases h
  | _ :: _, [], h => by cases h
theorem rel_keys {K : PySem.W.Frag} : ∀ {xs : List (List Int × Addr × Value)} {tab : List (List Int × Str)}, Paired (TabRel K) xs tab → xs.map (·.1) = tab.map (·.1)
  | _, _, .nil => rfl
  | _, _, .cons h t => by rw [List.map_cons, List.map_cons, rel_keys t, h.1]
theorem rel_at {K : PySem.W.Frag} {k : List Int} : ∀ {xs : List (List Int × Addr × Value)} {tab : List (List Int × Str)}, Paired (TabRel K) xs tab →
    match tab.find? (fun y => decide (y.1 = k)) with
    | some y => ∃ a t, atKey xs k = some (a, .str y.2 t)
    | none => atKey xs k = none
  | _, _, .nil => rfl
  | x :: xs, y :: ys, .cons h t => by
    have ih := rel_at (k := k) t
    obtain ⟨h1, ⟨tk, h2⟩, _⟩ := h
    by_cases hk : y.1 = k
    · rw [List.find?_cons_of_pos (by simpa using hk)]
      refine ⟨x.2.1, tk, ?_⟩
      unfold atKey
      rw [List.find?_cons_of_pos (by simp [h1, hk])]
      show some (x.2.1, x.2.2) = _
      rw [h2]
    · rw [List.find?_cons_of_neg (by simpa using hk)]
      have e : atKey (x :: xs) k = atKey xs k := by
        unfold atKey
        rw [List.find?_cons_of_neg (by simp [h1, hk])]
      rw [e]
      exact ih
structure Tab (K : PySem.W.Frag) (d : Addr) (tab : List (List Int × Str)) : Prop where
  ok : tabOk K d tab = true
  nd : (tab.map (·.1)).Nodup
theorem Tab.dict {K : PySem.W.Frag} {d : Addr} {tab : List (List Int × Str)} (T : Tab K d tab) {h : Heap} (X : K.In h) (P : Program) (w : World) :
    ∃ xs o es ep, h.get? d = some o ∧ o.ExactDict ∧ o.data = .dict es ep ∧ es.toList = xs.map (entryOfKey (tupleKind (intKind P w))) ∧ h.DictOfH (tupleKind (intKind P w)) d xs ∧ Paired (TabRel K) xs tab ∧ (d == sysModules) = false ∧ tab.length ≤ 1000 := by
  have t := T.ok
  unfold tabOk at t
  split at t
  · rename_i o e
    obtain ⟨t, h6⟩ := Bool.and_eq_true_iff.mp t
    obtain ⟨t, h5⟩ := Bool.and_eq_true_iff.mp t
    obtain ⟨t, h4⟩ := Bool.and_eq_true_iff.mp t
    obtain ⟨t, h3⟩ := Bool.and_eq_true_iff.mp t
    obtain ⟨h1, h2⟩ := Bool.and_eq_true_iff.mp t
    split at h1
    · rename_i n hc
      split at h4
      · rename_i es ep hd
        obtain ⟨xs, e1, r⟩ := tabAll_rel (P := P) (w := w) h4
        have ho := X _ _ e
        have hx : o.ExactDict := ⟨by rw [hc, beq_iff_eq.mp h1], by simpa using h2, by simpa using h3⟩
        refine ⟨xs, o, es, ep, ho, hx, hd, e1, ⟨o, es, ep, ho, hx, hd, e1, fun x hm => ?_, by rw [rel_keys r]; exact T.nd⟩, r, by simpa using h6, of_decide_eq_true h5⟩
        have key : ∀ {xs : List (List Int × Addr × Value)} {tab : List (List Int × Str)}, Paired (TabRel K) xs tab → ∀ x ∈ xs, tupInK K x.2.1 x.1 = true := by
          intro xs tab r
          induction r with
          | nil => intro x hx; cases hx
          | cons a _ ih =>
            intro x hx
            rcases List.mem_cons.mp hx with rfl | hx
            · rw [a.1]; exact a.2.2
            · exact ih x hx
        have q := key r x hm
        unfold tupInK at q
        split at q
        · rename_i o2 e2
          obtain ⟨q1, q2⟩ := Bool.and_eq_true_iff.mp q
          split at q1
          · rename_i n2 hc2
            split at q2
            · rename_i its m hd2
              exact ⟨o2, its, m, X _ _ e2, by rw [hc2, beq_iff_eq.mp q1], hd2, items_of_vals (intsOf_vals (beq_iff_eq.mp (Bool.and_eq_true_iff.mp q2).1))⟩
            · cases q2
          · cases q1
        · cases q
      · cases h4
    · cases h1
  · cases t
section
variable {X : Cx} {d : Addr} {tab : List (List Int × Str)}
def rInW (K : PySem.W.Frag) (d : Addr) (tab : List (List Int × Str)) : R2 := fun x y H Q => ∃ a ns, x = .ref a ∧ y = .ref d ∧ SqT K H a (ns.map V.int) ∧ Q (.bl (tab.find? (fun y => decide (y.1 = ns))).isSome) H
theorem key_of {pins : List (Addr × Obj)} {σ : St} {H : Hp} {s : Shared} {a : Addr} {ns : List Int} (I : Inv X pins σ H s) (h : SqT X.K H a (ns.map V.int)) : (tupleKind (intKind X.prog X.w)).is s.heap ns a := by
  obtain ⟨its, r, ⟨o, e, c, n, d⟩, _⟩ := I.tuple h
  exact ⟨o, its.toArray, n, e, c, d, items_of_vals (by simpa using r)⟩
theorem op_inW (hu : X.A.units + 64 < cLine) (T : Tab X.K d tab) : OpR X (compareOp .In) (rInW X.K d tab) := by
  intro pins s σ H x y v u Q I rx ry h
  obtain ⟨a, ns, rfl, rfl, hs, q⟩ := h
  cases rx; cases ry
  obtain ⟨xs, o, es, ep, ho, hx, hd, he, hm, r, hsys, _⟩ := T.dict I.kIn X.prog X.w
  refine wpAny_in_heap (knd := tupleKind (intKind X.prog X.w)) (show X.A.in1.units < cLine by show X.A.units + 1 < cLine; omega) (key_of I hs) hsys hm ?_
  have ra := rel_at (k := ns) r
  cases hf : tab.find? (fun y => decide (y.1 = ns)) with
  | none =>
    rw [hf] at ra q
    rw [ra]
    exact ⟨.bl false, H, I.tok _, rfl, q⟩
  | some y =>
    rw [hf] at ra q
    obtain ⟨b, t, e⟩ := ra
    rw [e]
    exact ⟨.bl true, H, I.tok _, rfl, q⟩
def rGetW (K : PySem.W.Frag) (d : Addr) (tab : List (List Int × Str)) : R2 := fun x y H Q => ∃ a ns z, y = .ref a ∧ x = .ref d ∧ SqT K H a (ns.map V.int) ∧ tab.find? (fun y => decide (y.1 = ns)) = some z ∧ Q (.str z.2) H
theorem op_getW (hu : X.A.units + 64 < cLine) (T : Tab X.K d tab) : OpR X getItem (rGetW X.K d tab) := by
  intro pins s σ H x y v u Q I rx ry h
  obtain ⟨a, ns, z, rfl, rfl, hs, hz, q⟩ := h
  cases rx; cases ry
  obtain ⟨xs, o, es, ep, ho, hx, hd, he, hm, r, hsys, _⟩ := T.dict I.kIn X.prog X.w
  have ra := rel_at (k := ns) r
  rw [hz] at ra
  obtain ⟨b, t, e⟩ := ra
  exact wpAny_getItem_heap (knd := tupleKind (intKind X.prog X.w)) (show X.A.in1.units < cLine by show X.A.units + 1 < cLine; omega) (key_of I hs) hm e ⟨.str z.2, H, I.tok _, ⟨t, rfl⟩, q⟩
/-- list(table) -/
def rListW (K : PySem.W.Frag) (d : Addr) (tab : List (List Int × Str)) : List V → Hp → VK → Prop := fun xs H Q => xs = [V.ref d] ∧ ∀ p bs, H p = none → Paired (fun b (y : List Int × Str) => tupInK K b y.1 = true) bs tab → Q (.ref p) (upd H p (.lst (bs.map V.ref)))
theorem call_listW (hc : X.calm = true) (T : Tab X.K d tab) : CallR X (.type "list") (rListW X.K d tab) := by
  intro pins s σ H xs us Q I r h
  obtain ⟨rfl, q⟩ := h
  obtain ⟨u, rfl, rx⟩ := r.one
  cases rx
  obtain ⟨ks, o, es, ep, ho, hx, hdt, he, hm, pr, hs, hlen⟩ := T.dict I.kIn X.prog X.w
  have l1 : es.size = ks.length := size_of_entries he
  have l2 : ks.length = tab.length := Paired.length pr
  refine PySem.W.kdl_call (kdl_raw hs hx hdt) (I.ok.hd hc) ho (by rw [l1, l2]; exact Nat.le_trans hlen (by decide)) fun h' tk acc' c' kp e it => ?_
  have ea : acc'.toList = ks.map fun x => Value.ref x.2.1 := by
    have hl : acc'.toList.length = ks.length := by rw [Array.length_toList, it.1]; exact l1
    apply List.ext_getElem?
    intro j
    rw [List.getElem?_map]
    cases hj : acc'.toList[j]? with
    | none =>
      have h1 := List.getElem?_eq_none_iff.mp hj
      rw [List.getElem?_eq_none (by omega)]
      all_goals rfl
    | some v =>
      obtain ⟨en, hen, hv⟩ := it.2 j v (by rw [← Array.getElem?_toList]; exact hj)
      have qe := entry_at he j
      rw [hen] at qe
      cases hb : ks[j]? with
      | none =>
        rw [hb] at qe
        exact nomatch (show some en = none from qe)
      | some b =>
        rw [hb] at qe
        have e2 : en = entryOfKey (tupleKind (intKind X.prog X.w)) b := Option.some.inj qe
        rw [hv, e2]
        all_goals rfl
  have eb : acc'.toList = (ks.map fun x => x.2.1).map Value.ref := by rw [ea, List.map_map]; all_goals rfl
  have rv : Vals ((ks.map fun x => x.2.1).map V.ref) acc'.toList := by rw [eb]; exact vals_refs _
  have hz : ((ks.map fun x => x.2.1).map V.ref).length ≤ sizeLine := by rw [List.length_map, List.length_map, l2]; exact Nat.le_trans hlen (by decide)
  have pb : ∀ {ks : List (List Int × Addr × Value)} {tab : List (List Int × Str)}, Paired (TabRel X.K) ks tab → Paired (fun b (y : List Int × Str) => tupInK X.K b y.1 = true) (ks.map fun x => x.2.1) tab := by
    intro ks tab r
    induction r with
    | nil => exact .nil
    | cons a _ ih => exact .cons a.2.2 ih
  refine ⟨.ref s.heap.objs.size, _, I.laid (t' := tk) (o := .lst ((ks.map fun x => x.2.1).map V.ref)) kp (Nat.le_refl _) ?_, rfl, q _ _ (I.hok.fresh (Nat.le_refl _)) (pb pr)⟩
  exact ⟨hz, acc'.toList, c', rv, by rw [Array.toArray_toList]; exact e⟩
end
section
variable {K : PySem.W.Frag} {f : Fx} {s : Sx} {d : Addr} {tab : List (List Int × Str)}
theorem dp_tints {G : Hp} {v : V} {ns : List Int} (h : Dp K G v (.tuple (ns.map .int))) : ∃ a, v = .ref a ∧ SqT K G a (ns.map V.int) := by
  cases h with
  | tup sq al =>
    rw [dpa_ints al] at sq
    exact ⟨_, rfl, sq⟩
theorem od_inW {ns : List Int} : OD K f (rInW K d tab) s (.dat (.tuple (ns.map .int))) (.val (.ref d)) (Is s (.dat (.bool (tab.find? (fun y => decide (y.1 = ns))).isSome))) := fun G H v u Q jj a b c => by
  obtain ⟨ad, rfl, sq⟩ := dp_tints a
  cases (show u = V.ref d from b)
  exact ⟨ad, ns, rfl, rfl, ex_t jj.ex sq, fD c jj (.bl _)⟩
theorem od_getW {ns : List Int} {z : List Int × Str} (hz : tab.find? (fun y => decide (y.1 = ns)) = some z) : OD K f (rGetW K d tab) s (.val (.ref d)) (.dat (.tuple (ns.map .int))) (Is s (.dat (.str z.2))) := fun G H u v Q jj b a c => by
  obtain ⟨ad, rfl, sq⟩ := dp_tints a
  cases (show u = V.ref d from b)
  exact ⟨ad, ns, z, rfl, rfl, ex_t jj.ex sq, hz, fD c jj (.str _)⟩
theorem cd_listW : CD K f (rListW K d tab) s [.val (.ref d)] (Is s (.dat (.list (tab.map fun y => .tuple (y.1.map .int))))) := fun G H vs Q jj a k => by
  cases a with
  | cons h t =>
    cases t
    cases (show _ = V.ref d from h)
    refine ⟨rfl, fun p bs hp r => ?_⟩
    refine fL k jj ?_ hp
    clear k hp
    induction r with
    | nil => exact .nil
    | cons a _ ih => exact .cons (dpT a G) ih
theorem ed_cd {δ : List En} {v : V} {dd : PyData} (h : ∀ G, Dp K G v dd) : ED K f s (tC v) δ (Is s (.dat dd)) := fun G H σ Q a b c => fD c b (h G)
end
/-! ### tuple.index of data -/
def rIndexT (K : PySem.W.Frag) : V → List V → Hp → VK → Prop := fun x xs H Q => ∃ (a : Addr) (ns : List Int) (i : Int) (j : Nat), x = V.ref a ∧ xs = [.int i] ∧ SqT K H a (ns.map V.int) ∧ ns[j]? = some i ∧ (∀ m, m < j → ns[m]? ≠ some i) ∧ Q (.int (j : Nat)) H
theorem flat_ints (ys : List Int) : (ys.map V.int).all flatV = true := by
  rw [List.all_map]
  exact List.all_eq_true.mpr fun _ _ => rfl
theorem mt_indexT {X : Cx} : MtR X "tuple.index" (rIndexT X.K) := by
  intro pins s σ H x xs v us Q I rx rs h
  obtain ⟨p, ys, z, j, rfl, rfl, hq, hy, hno, q⟩ := h
  cases rx
  obtain ⟨u, rfl, t, rfl⟩ := vals1 rs
  obtain ⟨its, r, pl, hz⟩ := I.tuple hq
  obtain ⟨⟨cls, dd, dt, sl⟩, ho, hc, n, hd⟩ := pl
  simp only at hc hd
  subst hc
  subst hd
  have hl : its.toArray.size = ys.length := by rw [List.size_toArray, ← r.length, List.length_map]
  have hj : j < its.toArray.size := by rw [hl]; exact (List.getElem?_eq_some_iff.mp hy).1
  have at' : ∀ (m : Nat) (hm : m < its.toArray.size), ∃ y t', ys[m]? = some y ∧ its.toArray[m] = Value.int y t' := fun m hm => by
    have hm' : m < ys.length := by rw [← hl]; exact hm
    obtain ⟨w, hw, t', hw'⟩ := r.get (i := m) (x := .int ys[m]) (by simp [hm'])
    refine ⟨ys[m], t', List.getElem?_eq_getElem hm', ?_⟩
    have e := (List.getElem?_eq_some_iff.mp hw).2
    rw [← hw', ← e]
    simp
  refine call_meets PySem.F.slot_tuple_index ⟨_, ho, rfl⟩ PySem.F.entry_tuple_index (PySem.F.args_tuple_index_2 _ _) (TI.tuple_indexAt p its.toArray n dd sl (.int z t) (eqU (.int z)) j hj ?_ ?_)
    ⟨ho, fun w hw => mem_eqAt (x := .int z) ⟨t, rfl⟩ rfl r (flat_ints ys) w (by simpa using hw), ⟨.int (j : Nat), H, I.tok _, ⟨_, rfl⟩, q⟩⟩
  · obtain ⟨y, t', h1, h2⟩ := at' j hj
    rw [hy] at h1
    cases h1
    rw [h2]
    show (z == z) = true
    exact beq_self_eq_true z
  · intro m hm hmj
    obtain ⟨y, t', h1, h2⟩ := at' m hm
    rw [h2]
    show (y == z) = false
    refine beq_eq_false_iff_ne.mpr fun e => hno m hmj ?_
    rw [h1, e]
/-- the written part's tuples have no dict of their own -/
def KT (K : PySem.W.Frag) : Prop := ∀ a o, K.lookup a = some o → o.cls = .type "tuple" → o.dict = none
def ktOk (K : PySem.W.Frag) : Bool := K.all fun p => (match p.2.cls with | .type n => n != "tuple" | _ => true) || p.2.dict.isNone
theorem KT.of {K : PySem.W.Frag} (h : ktOk K = true) : KT K := fun a o e c => by
  have hm : (a, o) ∈ K := by
    clear h
    induction K with
    | nil => cases e
    | cons p r ih =>
      obtain ⟨b, x⟩ := p
      simp only [List.lookup] at e
      split at e
      · rename_i q
        cases e
        rw [beq_iff_eq.mp q]
        exact List.mem_cons_self ..
      · exact List.mem_cons_of_mem _ (ih e)
  have q := List.all_eq_true.mp h _ hm
  simp only [c] at q
  simpa using q
/-- a tuple's method -/
def tyT (K : PySem.W.Frag) (x : V) (H : Hp) : Prop := ∃ p, x = .ref p ∧ ((∃ o xs, H p = some (.frz o (.tup xs)) ∧ o.dict = none) ∨ ∃ o, K.lookup p = some o ∧ o.cls = .type "tuple" ∧ o.dict = none)
def tBMT (K : PySem.W.Frag) (r : V → List V → Hp → VK → Prop) (to : TE) (t : TA) : TE := fun σ H Q => to σ H fun x H1 => tyT K x H1 ∧ t σ H1 fun xs H2 => r x xs H2 Q
theorem pe_bmT {X : Cx} {name : Str} {id : String} {r : V → List V → Hp → VK → Prop} {o e : Expr} {es : List Expr} {to : TE} {t : TA} {apos cpos : Pos} (pa : PlainAttrs "tuple") (slot : Slot "tuple" name id) (hty : typeOf (.builtin id) = pure (.type "method_descriptor")) (hm : MtR X id r) (ho : PE X o to) (ha : PA X (e :: es) t)
    (hbase : attributeBase o name X.env (eval o X.env) = eval o X.env := by rfl)
    (hfew : ((backTo cpos (starEach (e :: es) X.env)).all (fun x => !x.1) && (backToKw cpos (keywordEach [] X.env)).all (fun x => x.1.isSome)
      && decide ((e :: es).length + ([] : List Keyword).length + (if ([] : List Keyword).isEmpty then 0 else 1) < 30)) = true := by rfl)
    (hline : (apos.endLine == cpos.line) = true := by rfl) (hs : starEach (e :: es) X.env = (false, eval e X.env) :: starEach es X.env := by rfl) (hplain : (backTo cpos (starEach es X.env)).any (·.1) = false := by rfl) :
    PE X (.Call (.Attribute o name apos) (e :: es) [] cpos) (tBMT X.K r to t) := by
  refine ⟨fun pins s σ H Q I h => ?_⟩
  refine wpAny_Call_method_late hbase hfew hline rfl (thn (ho.run pins s σ H _ I h) fun v s1 ⟨x, H1, I1, r1, ty, q1⟩ => ?_)
  have h12 : s1.TypeIs v "tuple" ∧ ∀ a, v = .ref a → ∃ ob, s1.heap.get? a = some ob ∧ ob.dict = none := by
    obtain ⟨p, rfl, ty⟩ := ty
    cases r1
    rcases ty with ⟨o, xs, e, d⟩ | ⟨o, e, c, d⟩
    · obtain ⟨g, z, its, rv, ⟨o2, g2, c2, _⟩⟩ := (show ObjOk X.prog X.w H1 s1.heap p (.frz o (.tup xs)) from I1.hok p _ e)
      rw [g] at g2
      cases g2
      exact ⟨⟨o, g, c2⟩, fun a ea => by cases ea; exact ⟨o, g, d⟩⟩
    · exact ⟨⟨o, I1.kIn _ _ e, c⟩, fun a ea => by cases ea; exact ⟨o, I1.kIn _ _ e, d⟩⟩
  obtain ⟨h1, h2⟩ := h12
  refine ⟨"tuple", id, pa, slot, hty, h1, h2, ?_⟩
  have hA := ha.run cpos pins s1 σ H1 _ I1 q1
  rw [hs] at hA ⊢
  refine Calls.callWith_builtin (by show (false || (backTo cpos (starEach es X.env)).any (·.1)) = false; rw [hplain] <;> rfl) (Calls.evalArgs_plain ?_)
  exact thn hA fun us s2 ⟨vs, H2, I2, r2, q2⟩ => hm pins s2 σ H2 x vs v us Q I2 r1 r2 q2
theorem tyT_of {K : PySem.W.Frag} {f : Fx} {s : Sx} {G H : Hp} (kt : KT K) (j : J K f s G H) {a : Addr} {xs : List V} (h : SqT K G a xs) : tyT K (.ref a) H := by
  rcases h with (e | ⟨o, e⟩) | ⟨o, its, n, e, c, _⟩
  · exact absurd e ((j.tf a).1 xs)
  · exact ⟨a, rfl, .inl ⟨o, xs, j.ex _ _ e, (j.tf a).2 o xs e⟩⟩
  · exact ⟨a, rfl, .inr ⟨o, e, c, kt a o e c⟩⟩
theorem ed_indexT {K : PySem.W.Frag} {f : Fx} {s : Sx} {δ : List En} {to te : TE} {ns : List Int} {i : Int} {j : Nat} (kt : KT K) (ho : ED K f s to δ (Is s (.dat (.tuple (ns.map .int))))) (he : ED K f s te δ (Is s (.dat (.int i)))) (h1 : ns[j]? = some i) (h2 : ∀ m, m < j → ns[m]? ≠ some i) :
    ED K f s (tBMT K (rIndexT K) to (tCons te tNil)) δ (Is s (.dat (.int (j : Nat)))) := fun G H σ Q sl b c =>
  ho G H σ _ sl b fun v x s1 G1 H1 e1 j1 o1 p1 => by
    obtain ⟨rfl, rfl⟩ := p1
    obtain ⟨ad, rfl, sq⟩ := dp_tints o1
    refine ⟨tyT_of kt j1 sq, he G1 H1 σ _ (Slots.mono e1 sl) j1 fun u y s2 G2 H2 e2 j2 o2 p2 => ?_⟩
    obtain ⟨rfl, rfl⟩ := p2
    cases o2
    exact ⟨ad, ns, i, j, rfl, rfl, ex_t j2.ex (ex_t e2 sq), h1, h2, c _ (.dat (.int (j : Nat))) _ G2 H2 (e1.trans e2) j2 (.int _) ⟨rfl, rfl⟩⟩
/-- f(k = v, ..), nothing by position -/
theorem pe_callK0 {X : Cx} {CX : CXT} {k : Nat} {f : Addr} {fd : FuncData} {ps ks : List Str} {sp : Sp} {x : Str} {p pos : Pos} {E : XK} {g : List Value → List Value → List Value} {gV : List V → List V → List V} {kws : List Keyword} {tk : TA}
    (F : FnOk X.prog X.w X.K X.mg X.base CX k f fd ps sp) (hr : Room k X.A) (hg : Gl X x) (hm : X.mg x = some (.ref f)) (hk : PySem.W.keepIn X.K (.ref f) = true) (hb : KBinds X.K fd ps ks g gV) (hx : Passes CX X E)
    (hkw : PK X kws tk) (hall : (backToKw pos (keywordEach kws X.env)).all (·.1.isSome) = true := by rfl) (hks : (backToKw pos (keywordEach kws X.env)).filterMap (·.1) = ks := by rfl)
    (hdb : (x == ("__debug__" : Str)) = false := by decide)
    (hpl : ((backTo pos (starEach [] X.env)).any (·.1) || (backToKw pos (keywordEach kws X.env)).any (·.1.isNone)) = false := by rfl) : PE X (.Call (.Name x p) [] kws pos) (tCallK sp gV E tNil tk) := by
  refine ⟨fun pins s σ H Q I h => ?_⟩
  refine wpAny_Call_Name_kw (ld_glob I hg hm ?_ hdb)
  refine PySem.W.callWith_KW0 (h₀ := X.base) I.ok.mod.kin hk hall (thn (hkw.run pos pins s σ H _ I h) fun ws s2 ⟨zs, H2, I2, rz, q2⟩ => ⟨I2.kIn, ?_⟩) hpl
  rw [hks]
  exact run_fnk (us := []) (vs := []) F hr hb hx I2 .nil rz q2
end Dl

namespace Dl
open PySem L2 Evl
/-! ### lists that are changed: the one on top -/
section
variable {K : PySem.W.Frag} {f : Fx} {s : Sx} {δ : List En} {ta tb te : TE} {tt tu : TT} {P R : Sx → En → Prop} {t u : TS} {p : Po} {n : Nat} {D : Addr} {es : List En} {r : List (Addr × List En)}
theorem sd_ownNew {i : Nat} {ta : TA} (h : EA K f s ta δ (Is s es)) (hl : es.length ≤ 100000) (k : ∀ D, SD K f ⟨s.n, (D, es) :: s.own⟩ u (δ.set i (.val (.ref D))) p) : SD K f s (tSeq (tAsg (tLst ta) (gName i)) u) δ p := fun G H σ Dd a b c =>
  h G H σ _ a b fun vs xs s1 G1 H1 e1 j1 o1 p1 => by
    obtain ⟨rfl, rfl⟩ := p1
    refine ⟨sz_of (by rw [o1.len]; exact hl), fun q hq => ?_⟩
    exact k q G1 (upd H1 q (.lst vs)) _ Dd (Slots.set (SOk.of (show Ok K G1 (.ref q) (.val (.ref q)) from rfl)) i (Slots.mono e1 a)) (j1.ownNew hq o1) (c.mono e1)
theorem own_dp {G H : Hp} {ds : List PyData} (j : J K f ⟨n, (D, ds.map .dat) :: r⟩ G H) : Dp K H (.ref D) (.list ds) := by
  obtain ⟨_, _, _, xs, e, v⟩ := j.own D _ (List.mem_cons_self ..)
  exact .lst (sq_of e) (dpaMono j.ex (Vs.dpa v))
theorem cd_lenOwn : CD K f (fun xs H Q => ∃ p ys, xs = [.ref p] ∧ (SqL K H p ys ∨ SqT K H p ys) ∧ Q (.int ys.length) H) ⟨n, (D, es) :: r⟩ [.val (.ref D)] (Is ⟨n, (D, es) :: r⟩ (.dat (.int es.length))) := fun G H vs Q jj a k => by
  cases a with
  | cons h t =>
    cases t
    cases (show _ = V.ref D from h)
    obtain ⟨_, _, _, xs, e, v⟩ := jj.own D _ (List.mem_cons_self ..)
    refine ⟨D, xs, rfl, .inl (sq_of e), ?_⟩
    rw [v.len]
    exact fD k jj (.int _)
theorem vs_at {G : Hp} {vs : List V} {es : List En} {i : Int} {x : En} (h : Vs K G vs es) (e : atI es i = some x) : ∃ v, atI vs i = some v ∧ Ok K G v x := by
  unfold atI at e ⊢
  rw [h.len]
  cases q : ixN es.length i with
  | none => rw [q] at e; cases e
  | some j =>
    rw [q] at e
    exact Vs.get h e
theorem od_ixOwn {i : Int} {x : En} (e : atI es i = some x) : OD K f (rIx K) ⟨n, (D, es) :: r⟩ (.val (.ref D)) (.dat (.int i)) (Is ⟨n, (D, es) :: r⟩ x) := fun G H v u Q jj a b k => by
  cases (show v = V.ref D from a)
  cases b
  obtain ⟨_, _, _, xs, e2, vv⟩ := jj.own D _ (List.mem_cons_self ..)
  obtain ⟨w, e1, o⟩ := vs_at vv e
  exact .inl ⟨_, _, i, w, rfl, rfl, sq_of e2, e1, k _ _ _ G H (Ex.refl G) jj o ⟨rfl, rfl⟩⟩
theorem od_notInOwn {d : PyData} {ds : List PyData} (h1 : SeqAt.shaped d = true) (h2 : SeqAt.shaped (.list ds) = true) : OD K f (rNotInD K) ⟨n, (D, ds.map .dat) :: r⟩ (.dat d) (.val (.ref D)) (Is ⟨n, (D, ds.map .dat) :: r⟩ (.dat (.bool (!ds.any fun z => PyData.eqv z d)))) := fun G H v u Q jj a b c => by
  cases (show u = V.ref D from b)
  exact ⟨d, ds, dpMono jj.ex a, own_dp jj, h1, h2, fD c jj (.bl _)⟩
theorem od_neOwn {d : PyData} {ds : List PyData} (h1 : SeqAt.shaped d = true) (h2 : SeqAt.shaped (.list ds) = true) : OD K f (rNeD K) ⟨n, (D, ds.map .dat) :: r⟩ (.val (.ref D)) (.dat d) (Is ⟨n, (D, ds.map .dat) :: r⟩ (.dat (.bool (!PyData.eqv (.list ds) d)))) := fun G H u v Q jj b a c => by
  cases (show u = V.ref D from b)
  exact ⟨.list ds, d, own_dp jj, dpMono jj.ex a, h2, h1, fD c jj (.bl _)⟩
theorem sd_app {i : Nat} {x : En} (hi : δ[i]? = some (.val (.ref D))) (h : ED K f ⟨n, (D, es) :: r⟩ te δ (Is ⟨n, (D, es) :: r⟩ x)) (hl : es.length < 100000) (k : p.nx ⟨n, (D, es ++ [x]) :: r⟩ δ) : SD K f ⟨n, (D, es) :: r⟩ (tDrop (tBM K "list" rAppend (tVar i) (tCons te tNil))) δ p := fun G H σ Dd a b c => by
  obtain ⟨v, e0, o1⟩ := Slots.get a hi rfl
  cases (show v = V.ref D from o1)
  obtain ⟨_, _, _, xs, e, vv⟩ := b.own D _ (List.mem_cons_self ..)
  refine ⟨_, e0, Or.inl ⟨rfl, xs, sq_of e⟩, h G H σ _ a b fun w z s2 G2 H2 e2 j2 o2 p2 => ?_⟩
  obtain ⟨rfl, rfl⟩ := p2
  obtain ⟨_, _, _, ys, e', vv'⟩ := j2.own D _ (List.mem_cons_self ..)
  exact ⟨D, ys, w, rfl, rfl, e', sz_lt (by rw [vv'.len]; exact hl), c.nx σ δ _ G2 _ e2 (j2.ownSet (Vs.app vv' o2)) (Slots.mono e2 a) k⟩
/-- x += e -/
theorem sd_aug {i : Nat} {g : Int → Int → Int} {a b : Int} (hx : δ[i]? = some (.dat (.int a))) (h : ED K f s te δ (Is s (.dat (.int b)))) (k : p.nx s (δ.set i (.dat (.int (g a b))))) : SD K f s (tAug i te (ipI g)) δ p := fun G H σ Dd sl jj c => by
  obtain ⟨v, e, o⟩ := Slots.get sl hx rfl
  cases o
  refine ⟨_, e, h G H σ _ sl jj fun w z s1 G1 H1 e1 j1 o1 p1 => ?_⟩
  obtain ⟨rfl, rfl⟩ := p1
  cases o1
  exact ⟨a, b, rfl, rfl, c.nx _ _ _ G1 H1 e1 j1 (Slots.set (SOk.of (show Ok K G1 (.int (g a b)) (.dat (.int (g a b))) from .int _)) i (Slots.mono e1 sl)) k⟩
end
/-! ### tuples of ints -/
def tupD (ns : List Int) : PyData := .tuple (ns.map .int)
theorem eqvAll_ints : ∀ a b : List Int, PyData.eqvAll (a.map .int) (b.map .int) = decide (a = b)
  | [], [] => by simp [PyData.eqvAll]
  | [], y :: ys => by simp [PyData.eqvAll]
  | x :: xs, [] => by simp [PyData.eqvAll]
  | x :: xs, y :: ys => by
    simp only [List.map_cons, PyData.eqvAll, PyData.eqv, eqvAll_ints xs ys]
    by_cases h : x = y
    · subst h
      simp
    · simp [h]
theorem eqv_tup (a b : List Int) : PyData.eqv (tupD a) (tupD b) = decide (a = b) := by
  unfold tupD
  simp only [PyData.eqv]
  exact eqvAll_ints a b
theorem eqv_lst (a b : List Int) : PyData.eqv (.list (a.map .int)) (.list (b.map .int)) = decide (a = b) := by
  simp only [PyData.eqv]
  exact eqvAll_ints a b
theorem any_tup (xs : List (List Int)) (a : List Int) : ((xs.map tupD).any fun z => PyData.eqv z (tupD a)) = decide (a ∈ xs) := by
  induction xs with
  | nil => simp
  | cons x xs ih =>
    rw [List.map_cons, List.any_cons, ih, eqv_tup]
    by_cases h : a = x
    · subst h
      simp
    · have h' : ¬ x = a := fun z => h z.symm
      simp [h, h']
theorem lay_tups : ∀ xs : List (List Int), PyData.canLayAll0 (xs.map tupD) = true
  | [] => by simp [PyData.canLayAll0]
  | x :: xs => by simp [PyData.canLayAll0, PyData.canLay0, tupD, lay_ints, lay_tups xs]
theorem depth_tups : ∀ xs : List (List Int), PyData.depthAll (xs.map tupD) ≤ 2
  | [] => by simp [PyData.depthAll]
  | x :: xs => by
    have h1 := depth_tups xs
    have h2 := depth_ints x
    simp only [List.map_cons, PyData.depthAll, tupD, PyData.depth] at h1 ⊢
    omega
theorem shaped_tups (xs : List (List Int)) : SeqAt.shaped (.list (xs.map tupD)) = true := by
  have := depth_tups xs
  unfold SeqAt.shaped
  rw [Bool.and_eq_true, decide_eq_true_eq]
  refine ⟨?_, ?_⟩
  · simp [PyData.canLay0, lay_tups xs]
  · simp only [PyData.depth]
    omega
theorem shaped_tup (a : List Int) : SeqAt.shaped (tupD a) = true := shaped_tints a
/-- sorted(xs), xs tuples of d ints each, less than B -/
def SortRes (L : List (List Int)) (B : Int) (x : En) : Prop := ∃ L' : List (List Int), L'.Perm L ∧ L'.Pairwise (fun a b => TS.code B a ≤ TS.code B b) ∧ x = .dat (.list (L'.map tupD))
theorem perm_back {K : PySem.W.Frag} {G : Hp} : ∀ {ys xs : List V}, ys.Perm xs → ∀ {L : List (List Int)}, DpAll K G xs (L.map tupD) → ∃ L' : List (List Int), L'.Perm L ∧ DpAll K G ys (L'.map tupD) := by
  intro ys xs h
  induction h with
  | nil => exact fun {L} d => ⟨L, .refl _, d⟩
  | cons x _ ih =>
    intro L d
    cases L with
    | nil => cases d
    | cons a L =>
      cases d with
      | cons h t =>
        obtain ⟨L', p, q⟩ := ih t
        exact ⟨a :: L', p.cons a, .cons h q⟩
  | swap x y l =>
    intro L d
    match L, d with
    | a :: b :: L, .cons h (.cons h' t) => exact ⟨b :: a :: L, .swap _ _ _, .cons h' (.cons h t)⟩
  | trans _ _ ih1 ih2 =>
    intro L d
    obtain ⟨L1, p1, d1⟩ := ih2 d
    obtain ⟨L2, p2, d2⟩ := ih1 d1
    exact ⟨L2, p2.trans p1, d2⟩
theorem pair_back {K : PySem.W.Frag} {G : Hp} {B : Int} : ∀ {ys : List V} {L : List (List Int)}, DpAll K G ys (L.map tupD) → ys.Pairwise (fun x y => ∀ n m, TupI K G x n → TupI K G y m → TS.code B n ≤ TS.code B m) → L.Pairwise (fun a b => TS.code B a ≤ TS.code B b)
  | _, [], _, _ => .nil
  | _, a :: L, .cons h t, p => by
    have tp : ∀ {v : V} {a : List Int}, Dp K G v (tupD a) → TupI K G v a := fun h => dp_tints h
    rw [List.pairwise_cons] at p ⊢
    refine ⟨fun b hb => ?_, pair_back t p.2⟩
    obtain ⟨j, hj, rfl⟩ := List.mem_iff_getElem.mp hb
    obtain ⟨v, hv, o⟩ := dpa_get t (i := j) (d := tupD L[j]) (by rw [List.getElem?_map, List.getElem?_eq_getElem hj]; rfl)
    exact p.1 v (List.mem_of_getElem? hv) _ _ (tp h) (tp o)
section
variable {K : PySem.W.Frag} {f : Fx} {s : Sx} {n : Nat} {D : Addr} {r : List (Addr × List En)} {d : Nat} {B : Int} {L : List (List Int)}
theorem sort_core {G H : Hp} {a : Addr} {xs : List V} {Q : VK} {P : Sx → En → Prop} (jj : J K f s G H) (hs : SqL K H a xs) (da : DpAll K G xs (L.map tupD)) (h64 : L.length < 64) (hb : ∀ a ∈ L, a.length = d ∧ TS.Bd B a) (i : ∀ x, SortRes L B x → P s x)
    (k : ∀ w z s' G2 H2, Ex G G2 → J K f s' G2 H2 → Ok K G2 w z → P s' z → Q w H2) : rSortU K d B [.ref a] H Q := by
  have eG := jj.ex
  have tp : ∀ {v : V} {a : List Int}, Dp K H v (tupD a) → TupI K H v a := fun h => dp_tints h
  have da2 : DpAll K H xs (L.map tupD) := dpaMono eG da
  refine ⟨a, xs, rfl, hs, by rw [dpa_len da, List.length_map]; exact h64, fun x hx => ?_, fun ys p hp ho hq => ?_⟩
  · obtain ⟨j, hj, rfl⟩ := List.mem_iff_getElem.mp hx
    obtain ⟨e, he, o⟩ := dpa_getV da2 (List.getElem?_eq_getElem hj)
    rw [List.getElem?_map] at he
    obtain ⟨c, hc, rfl⟩ := Option.map_eq_some_iff.mp he
    obtain ⟨h1, h2⟩ := hb c (List.mem_of_getElem? hc)
    exact ⟨c, tp o, h1, h2⟩
  · obtain ⟨L', pl, dl⟩ := perm_back hp da
    have eg : Ex G (upd G p (.lst ys)) := Ex.new (fresh_back jj.ex hq)
    refine k _ (.dat (.list (L'.map tupD))) s _ _ eg (jj.alloc hq _ trivial) (show Dp K _ _ _ from .lst (sq_of upd_same) (dpaMono eg dl)) (i _ ⟨L', pl, pair_back (dpaMono eG dl) ho, rfl⟩)
theorem cd_sortOwn {P : Sx → En → Prop} (h64 : L.length < 64) (hb : ∀ a ∈ L, a.length = d ∧ TS.Bd B a) (i : ∀ x, SortRes L B x → P ⟨n, (D, (L.map tupD).map .dat) :: r⟩ x) : CD K f (rSortU K d B) ⟨n, (D, (L.map tupD).map .dat) :: r⟩ [.val (.ref D)] P := fun G H vs Q jj a k => by
  cases a with
  | cons h t =>
    cases t
    cases (show _ = V.ref D from h)
    obtain ⟨_, _, _, xs, e, v⟩ := jj.own D _ (List.mem_cons_self ..)
    exact sort_core jj (sq_of e) (Vs.dpa v) h64 hb i k
theorem cd_sort {P : Sx → En → Prop} (h64 : L.length < 64) (hb : ∀ a ∈ L, a.length = d ∧ TS.Bd B a) (i : ∀ x, SortRes L B x → P s x) : CD K f (rSortU K d B) s [.dat (.list (L.map tupD))] P := fun G H vs Q jj a k => by
  cases a with
  | cons h t =>
    cases t
    cases h with
    | lst sq al => exact sort_core jj (ex_l jj.ex sq) al h64 hb i k
end
/-- a sorted order of unlike things is one -/
theorem sorted_one {B : Int} : ∀ {L M : List (List Int)}, L.Perm M → L.Pairwise (fun a b => TS.code B a ≤ TS.code B b) → M.Pairwise (fun a b => TS.code B a < TS.code B b) → L = M
  | [], M, p, _, _ => by rw [List.nil_perm.mp p]
  | a :: L, [], p, _, _ => by cases List.perm_nil.mp p
  | a :: L, b :: M, p, h1, h2 => by
    rw [List.pairwise_cons] at h1 h2
    have ab : a = b := by
      have ha : a ∈ b :: M := p.mem_iff.mp (List.mem_cons_self ..)
      have hb : b ∈ a :: L := p.mem_iff.mpr (List.mem_cons_self ..)
      rcases List.mem_cons.mp ha with e | ha
      · exact e
      · rcases List.mem_cons.mp hb with e | hb
        · exact e.symm
        · have := h2.1 a ha
          have := h1.1 b hb
          omega
    subst ab
    rw [sorted_one (List.Perm.cons_inv p) h1.2 h2.2]
end Dl

namespace Dl
open PySem L2 Evl
def isIntD : PyData → Bool
  | .int _ => true
  | .bool _ => true
  | _ => false
def isBoolD : PyData → Bool
  | .bool _ => true
  | _ => false
def isTupD : PyData → Bool
  | .tuple _ => true
  | _ => false
def isLstD : PyData → Bool
  | .list _ => true
  | _ => false
def isStrD : PyData → Bool
  | .str _ => true
  | _ => false
theorem kit_int (d : PyData) : kitB (tyD d) "int" = some (isIntD d) := by
  cases d
  · show kitB "NoneType" "int" = some false; decide +kernel
  · show kitB "bool" "int" = some true; decide +kernel
  · show kitB "int" "int" = some true; decide +kernel
  · show kitB "str" "int" = some false; decide +kernel
  · show kitB "list" "int" = some false; decide +kernel
  · show kitB "tuple" "int" = some false; decide +kernel
  · show kitB "dict" "int" = some false; decide +kernel
theorem kit_bool (d : PyData) : kitB (tyD d) "bool" = some (isBoolD d) := by
  cases d
  · show kitB "NoneType" "bool" = some false; decide +kernel
  · show kitB "bool" "bool" = some true; decide +kernel
  · show kitB "int" "bool" = some false; decide +kernel
  · show kitB "str" "bool" = some false; decide +kernel
  · show kitB "list" "bool" = some false; decide +kernel
  · show kitB "tuple" "bool" = some false; decide +kernel
  · show kitB "dict" "bool" = some false; decide +kernel
theorem kit_tuple (d : PyData) : kitB (tyD d) "tuple" = some (isTupD d) := by
  cases d
  · show kitB "NoneType" "tuple" = some false; decide +kernel
  · show kitB "bool" "tuple" = some false; decide +kernel
  · show kitB "int" "tuple" = some false; decide +kernel
  · show kitB "str" "tuple" = some false; decide +kernel
  · show kitB "list" "tuple" = some false; decide +kernel
  · show kitB "tuple" "tuple" = some true; decide +kernel
  · show kitB "dict" "tuple" = some false; decide +kernel
theorem kit_list (d : PyData) : kitB (tyD d) "list" = some (isLstD d) := by
  cases d
  · show kitB "NoneType" "list" = some false; decide +kernel
  · show kitB "bool" "list" = some false; decide +kernel
  · show kitB "int" "list" = some false; decide +kernel
  · show kitB "str" "list" = some false; decide +kernel
  · show kitB "list" "list" = some true; decide +kernel
  · show kitB "tuple" "list" = some false; decide +kernel
  · show kitB "dict" "list" = some false; decide +kernel
section
variable {K : PySem.W.Frag} {f : Fx} {s : Sx} {δ : List En} {te : TE} {d : PyData}
theorem ed_isInt (h : ED K f s te δ (Is s (.dat d))) : ED K f s (tCB (rIsi K) (tCons te (tCons (tC (.ty "int")) tNil))) δ (Is s (.dat (.bool (isIntD d)))) := ed_cb (ea_cons h (ea_cons ed_c ea_nil)) (cd_isi (kit_ty (kit_int d)))
theorem ed_isBool (h : ED K f s te δ (Is s (.dat d))) : ED K f s (tCB (rIsi K) (tCons te (tCons (tC (.ty "bool")) tNil))) δ (Is s (.dat (.bool (isBoolD d)))) := ed_cb (ea_cons h (ea_cons ed_c ea_nil)) (cd_isi (kit_ty (kit_bool d)))
theorem ed_isTup (h : ED K f s te δ (Is s (.dat d))) : ED K f s (tCB (rIsi K) (tCons te (tCons (tC (.ty "tuple")) tNil))) δ (Is s (.dat (.bool (isTupD d)))) := ed_cb (ea_cons h (ea_cons ed_c ea_nil)) (cd_isi (kit_ty (kit_tuple d)))
theorem ed_isLst (h : ED K f s te δ (Is s (.dat d))) : ED K f s (tCB (rIsi K) (tCons te (tCons (tC (.ty "list")) tNil))) δ (Is s (.dat (.bool (isLstD d)))) := ed_cb (ea_cons h (ea_cons ed_c ea_nil)) (cd_isi (kit_ty (kit_list d)))
/-- and, or, of truths -/
theorem ed_and {ta tb : TE} {a b : Bool} (h1 : ED K f s ta δ (Is s (.dat (.bool a)))) (h2 : a = true → ED K f s tb δ (Is s (.dat (.bool b)))) : ED K f s (tAndV ta tb) δ (Is s (.dat (.bool (a && b)))) := by
  refine ed_andV h1 (fun z => ?_) (fun z => ?_)
  · rw [z]; exact h2 z
  · rw [z]; exact ⟨rfl, rfl⟩
theorem ed_or {ta tb : TE} {a b : Bool} (h1 : ED K f s ta δ (Is s (.dat (.bool a)))) (h2 : a = false → ED K f s tb δ (Is s (.dat (.bool b)))) : ED K f s (tOrV ta tb) δ (Is s (.dat (.bool (a || b)))) := by
  refine ed_orV h1 (fun z => ?_) (fun z => ?_)
  · rw [z]; exact h2 z
  · rw [z]; exact ⟨rfl, rfl⟩
theorem map_bools {α : Type} (g : α → Bool) (f' : α → PyData) (h : PyData → PyData) (ds : List α) (e : ∀ a, h (f' a) = .bool (g a)) : (ds.map f').map h = (ds.map g).map PyData.bool := by
  rw [List.map_map, List.map_map]
  exact List.map_congr_left fun a _ => e a
/-- all([g(x) for x in t]) of truths -/
theorem ed_all {tl : TE} {ds : List PyData} {g : PyData → Bool} (h : ED K f s tl δ (Is s (.dat (.list (ds.map fun d => .bool (g d)))))) : ED K f s (tCB (rAll K) (tCons tl tNil)) δ (Is s (.dat (.bool ((ds.map g).all id)))) := by
  have e : ds.map (fun d => PyData.bool (g d)) = (ds.map g).map PyData.bool := by rw [List.map_map]; rfl
  rw [e] at h
  exact ed_cb (ea_cons h ea_nil) cd_all
theorem ed_callE {A : List En → Prop} {R : List En → En → Prop} {E : XK} {t : TA} {es : List En} {x : En} (h : EA K f s t δ (Is s es)) (a : A es) (i : ∀ y, R es y → y = x) : ED K f s (tCall (spP K A R) [] E t) δ (Is s x) := ed_call h a fun y r => ⟨rfl, i y r⟩
theorem sd_dropI {p : Po} {x : En} (h : ED K f s te δ (Is s x)) (k : p.nx s δ) : SD K f s (tDrop te) δ p := sd_drop h fun s' x q => by
  obtain ⟨rfl, rfl⟩ := q
  exact k
theorem sd_dropS {p : Po} {u : TS} {x : En} (h : ED K f s te δ (Is s x)) (k : SD K f s u δ p) : SD K f s (tSeq (tDrop te) u) δ p :=
  sd_seq (M := fun s' δ' => s' = s ∧ δ' = δ) (sd_dropI h ⟨rfl, rfl⟩) fun s' δ' q => by
    obtain ⟨rfl, rfl⟩ := q
    exact k
theorem ed_lcT1' {tl : TE} {ds : List PyData} {j : Nat} (g : PyData → PyData) {r : List PyData} (h : ED K f s tl δ (Is s (.dat (.tuple ds)))) (hl : ds.length ≤ 90000)
    (he : ∀ d, d ∈ ds → ∀ s', ED K f s' te ((wipeE δ [j]).set j (.dat d)) (Is s' (.dat (g d)))) (e : ds.map g = r) : ED K f s (tLc (iTup K tl) (gName j) tYes te [j]) δ (Is s (.dat (.list r))) := by
  subst e
  exact ed_lcT1 g h hl he
theorem ed_lcL1' {tl : TE} {ds : List PyData} {j : Nat} (g : PyData → PyData) {r : List PyData} (h : ED K f s tl δ (Is s (.dat (.list ds)))) (hl : ds.length ≤ 90000)
    (he : ∀ d, d ∈ ds → ∀ s', ED K f s' te ((wipeE δ [j]).set j (.dat d)) (Is s' (.dat (g d)))) (e : ds.map g = r) : ED K f s (tLc (iList K tl) (gName j) tYes te [j]) δ (Is s (.dat (.list r))) := by
  subst e
  exact ed_lcL1 g h hl he
end
end Dl

namespace Dl
open PySem L2 Evl
section
variable {K : PySem.W.Frag} {f : Fx} {s : Sx} {δ : List En} {ta te : TE} {n : Nat} {w : List (Addr × List En)} {p c : Addr}
theorem ed_drawC {i : Nat} {m : Int} {E : XK} (hf : f.pu = some (p, c)) (hi : δ[i]? = some (.val (.ref p))) (h1 : 1 ≤ m) (h2 : m ≤ 2 ^ 64) :
    ED K f ⟨n + 1, w⟩ (tCall spDraw [] E (tCons (tVar i) (tCons (tC (.int m)) tNil))) δ (Drawn n w m) := ed_draw hf hi ed_c h1 (Int.le_trans h2 (by decide +kernel))
theorem at_list {L : List PyData} {r : Int} (h0 : 0 ≤ r) (h1 : r < L.length) : ∃ d, d ∈ L ∧ atI L r = some d := by
  have hr : r.toNat < L.length := by omega
  refine ⟨L[r.toNat], List.getElem_mem hr, ?_⟩
  have q := atI_nat (xs := L) (j := r.toNat) (List.getElem?_eq_getElem hr)
  rw [Int.toNat_of_nonneg h0] at q
  exact q
/-- a drawn one of a list -/
theorem ed_pick {i : Nat} {m : Int} {E : XK} {L : List PyData} (hf : f.pu = some (p, c)) (hi : δ[i]? = some (.val (.ref p))) (h : ED K f ⟨n + 1, w⟩ ta δ (Is ⟨n + 1, w⟩ (.dat (.list L)))) (hm : m = L.length) (h1 : 1 ≤ m) (h2 : m ≤ 2 ^ 64) :
    ED K f ⟨n + 1, w⟩ (tOp (rIx K) ta (tCall spDraw [] E (tCons (tVar i) (tCons (tC (.int m)) tNil)))) δ (fun s' x => s' = ⟨n, w⟩ ∧ ∃ d, d ∈ L ∧ x = .dat d) :=
  ed_opN (P := Is ⟨n + 1, w⟩ (.dat (.list L))) (P2 := fun _ _ => Drawn n w m) h (fun s1 x q => by obtain ⟨rfl, rfl⟩ := q; exact ed_drawC hf hi h1 h2) fun s1 x s2 y q1 q2 => by
    obtain ⟨rfl, rfl⟩ := q1
    obtain ⟨rfl, r, r0, r1, rfl⟩ := q2
    obtain ⟨d, hd, e⟩ := at_list r0 (hm ▸ r1)
    intro G H v u Q jj a b k
    exact od_ix (.inl rfl) e G H v u Q jj a b fun w' z s' G2 H2 e1 j1 o1 p1 => k w' z s' G2 H2 e1 j1 o1 (by obtain ⟨rfl, rfl⟩ := p1; exact ⟨rfl, d, hd, rfl⟩)
theorem ea_consD {tr : TA} {x : En} {P : Sx → List En → Prop} (ha : ED K f s ta δ (Is s x)) (hb : EA K f s tr δ P) : EA K f s (tCons ta tr) δ (fun s' xs => ∃ r, xs = x :: r ∧ P s' r) :=
  ea_consN (P2 := fun _ _ => P) ha (fun s1 x1 h => by obtain ⟨rfl, rfl⟩ := h; exact hb) fun s1 x1 s2 y1 h1 h2 => by obtain ⟨rfl, rfl⟩ := h1; exact ⟨_, rfl, h2⟩
theorem ea_one {P : Sx → En → Prop} (ha : ED K f s ta δ P) : EA K f s (tCons ta tNil) δ (fun s' xs => ∃ x, xs = [x] ∧ P s' x) :=
  ea_consN (P2 := fun s1 _ => Is s1 []) ha (fun s1 x1 h => ea_nil) fun s1 x1 s2 y1 h1 h2 => by obtain ⟨rfl, rfl⟩ := h2; exact ⟨_, rfl, h1⟩
theorem ed_callN {A : List En → Prop} {R : List En → En → Prop} {E : XK} {t : TA} {PA : Sx → List En → Prop} {P : Sx → En → Prop} (h : EA K f s t δ PA) (a : ∀ s' es, PA s' es → A es ∧ ∀ x, R es x → P s' x) : ED K f s (tCall (spP K A R) [] E t) δ P := fun G H σ Q sl b c =>
  h G H σ _ sl b fun vs xs s1 G1 H1 e1 j1 o1 p1 => by
    rw [List.append_nil]
    exact sp_use j1 o1 (a s1 xs p1).1 (a s1 xs p1).2 fun w z s3 G3 H3 e3 j3 o3 p3 => c w z s3 G3 H3 (e1.trans e3) j3 o3 p3
/-- list(range(n)) -/
theorem ed_listRg {m : Nat} (h : ED K f s te δ (Is s (.dat (.int (m : Int))))) (hm : m ≤ 1000) : ED K f s (tLstRg (tRg1 te)) δ (Is s (.dat (.list (rngD m)))) := fun G H σ Q sl b k =>
  h G H σ _ sl b fun v x s1 G1 H1 e1 j1 o1 p1 => by
    obtain ⟨rfl, rfl⟩ := p1
    cases o1
    refine ⟨m, rfl, ⟨by decide, by decide, by omega, by omega, ?_⟩, fun q hq => ?_⟩
    · rw [Int.sub_zero, Int.toNat_natCast]
      exact Nat.le_trans hm (by decide)
    · refine fL (fun w z s' G2 H2 e3 => k w z s' G2 H2 (e1.trans e3)) j1 ?_ hq
      unfold rgV rngD
      rw [Int.sub_zero, Int.toNat_natCast]
      have all : ∀ l : List Nat, DpAll K G1 (l.map fun i => V.int (0 + (i : Nat))) (l.map fun (i : Nat) => PyData.int (i : Int)) := by
        intro l
        induction l with
        | nil => exact .nil
        | cons i l ih =>
          refine .cons ?_ ih
          show Dp K G1 (V.int (0 + (i : Int))) (PyData.int (i : Int))
          rw [Int.zero_add]
          exact .int _
      exact all _
end
end Dl

namespace Dl
open PySem L2 Evl
section
variable {K : PySem.W.Frag} {f : Fx} {s : Sx} {G H G2 H2 : Hp}
/-- a new thing that is not told -/
theorem J.allocH (j : J K f s G H) {q : Addr} (h : H q = none) (o : HO) : J K f s G (upd H q o) :=
  j.pure (Ex.refl G) (j.ex.trans (Ex.new h)) (Ex.new h) (fun b h1 h2 => absurd h2 h1) j.tf
theorem J.swap {n : Nat} {a b : Addr × List En} {r : List (Addr × List En)} (j : J K f ⟨n, a :: b :: r⟩ G H) : J K f ⟨n, b :: a :: r⟩ G H := by
  refine ⟨j.ex, fun D es m => j.own D es ?_, ?_, j.pu, j.fr, j.g0, j.fs, j.tf⟩
  · rcases List.mem_cons.mp m with e | m
    · exact List.mem_cons_of_mem _ (e ▸ List.mem_cons_self ..)
    · rcases List.mem_cons.mp m with e | m
      · exact e ▸ List.mem_cons_self ..
      · exact List.mem_cons_of_mem _ (List.mem_cons_of_mem _ m)
  · have h : (a.1 :: b.1 :: r.map (·.1)).Nodup := j.nd
    show (b.1 :: a.1 :: r.map (·.1)).Nodup
    rw [List.nodup_cons, List.nodup_cons] at h ⊢
    obtain ⟨h1, h2, h3⟩ := h
    refine ⟨fun m => ?_, fun m => h1 (List.mem_cons_of_mem _ m), h3⟩
    rcases List.mem_cons.mp m with e | m
    · exact h1 (e ▸ List.mem_cons_self ..)
    · exact h2 m
end
section
variable {K : PySem.W.Frag} {f : Fx} {s : Sx} {δ : List En} {ta tb te tl to : TE} {tt tu : TT} {P R : Sx → En → Prop} {t u : TS} {p : Po} {n : Nat} {D : Addr} {es : List En} {r : List (Addr × List En)}
theorem ed_swap {a b : Addr × List En} (h : ED K f ⟨n, b :: a :: r⟩ te δ P) : ED K f ⟨n, a :: b :: r⟩ te δ P := fun G H σ Q sl j k => h G H σ Q sl j.swap k
theorem sd_swap {a b : Addr × List En} (h : SD K f ⟨n, b :: a :: r⟩ t δ p) : SD K f ⟨n, a :: b :: r⟩ t δ p := fun G H σ D sl j k => h G H σ D sl j.swap k
theorem sd_less {m : Nat} (h : SD K f ⟨m, r⟩ t δ p) (hm : m ≤ n) : SD K f ⟨n, r⟩ t δ p := fun G H σ D sl j k => h G H σ D sl (j.less hm) k
theorem ed_less {m : Nat} (h : ED K f ⟨m, r⟩ te δ P) (hm : m ≤ n) : ED K f ⟨n, r⟩ te δ P := fun G H σ D sl j k => h G H σ D sl (j.less hm) k
/-- xs[i] = e of the list on top -/
theorem sd_setOwn {i : Nat} {x : En} {j : Nat} (hi : δ[i]? = some (.val (.ref D))) (h : ED K f ⟨n, (D, es) :: r⟩ te δ (Is ⟨n, (D, es) :: r⟩ x)) (hj : ED K f ⟨n, (D, es) :: r⟩ tb δ (Is ⟨n, (D, es) :: r⟩ (.dat (.int (j : Int))))) (hl : j < es.length) (k : p.nx ⟨n, (D, es.set j x) :: r⟩ δ) :
    SD K f ⟨n, (D, es) :: r⟩ (tAsg te (gSub (tVar i) tb rSetL)) δ p := fun G H σ Dd a b c =>
  h G H σ _ a b fun v y s1 G1 H1 e1 j1 o1 p1 => by
    obtain ⟨rfl, rfl⟩ := p1
    obtain ⟨w, e0, o0⟩ := Slots.get (Slots.mono e1 a) hi rfl
    cases (show w = V.ref D from o0)
    refine ⟨_, e0, hj G1 H1 σ _ (Slots.mono e1 a) j1 fun u z s2 G2 H2 e2 j2 o2 p2 => ?_⟩
    obtain ⟨rfl, rfl⟩ := p2
    cases o2
    obtain ⟨_, _, _, xs, e, vv⟩ := j2.own D _ (List.mem_cons_self ..)
    exact ⟨D, xs, (j : Int), j, rfl, rfl, e, Evl.ixN_nat (by rw [vv.len]; exact hl), c.nx σ δ _ G2 _ (e1.trans e2) (j2.ownSet (Vs.setAt j vv (o1.mono e2))) (Slots.mono (e1.trans e2) a) k⟩
/-- tuple(xs) of the list on top -/
theorem cd_tupleOwn {ds : List PyData} : CD K f (rTupF K) ⟨n, (D, ds.map .dat) :: r⟩ [.val (.ref D)] (Is ⟨n, (D, ds.map .dat) :: r⟩ (.dat (.tuple ds))) := fun G H vs Q jj a k => by
  cases a with
  | cons h t =>
    cases t
    cases (show _ = V.ref D from h)
    obtain ⟨_, _, _, xs, e, v⟩ := jj.own D _ (List.mem_cons_self ..)
    exact ⟨D, xs, rfl, .inl ⟨sq_of e, fun q o ho hq => fT k jj (Vs.dpa v) ho hq⟩⟩
/-- x = [e, ..] * k -/
theorem sd_repNew {i : Nat} {ta : TA} {k : Nat} (h : EA K f s ta δ (Is s es)) (hl : es.length * k ≤ 100000) (hl2 : es.length ≤ 100000) (hk : k ≤ 100000) (c : ∀ D, SD K f ⟨s.n, (D, (List.replicate k es).flatten) :: s.own⟩ u (δ.set i (.val (.ref D))) p) :
    SD K f s (tSeq (tAsg (tOp rRep (tLst ta) (tC (.int (k : Int)))) (gName i)) u) δ p := fun G H σ Dd a b cc =>
  h G H σ _ a b fun vs xs s1 G1 H1 e1 j1 o1 p1 => by
    obtain ⟨rfl, rfl⟩ := p1
    refine ⟨sz_of (by rw [o1.len]; exact hl2), fun q hq => ?_⟩
    have j2 := j1.allocH hq (.lst vs)
    refine ⟨q, (k : Int), vs, rfl, rfl, upd_same, by omega, by omega, ?_, fun p2 hp2 => ?_⟩
    · rw [Int.toNat_natCast, o1.len]
      exact sz_of hl
    · have vv : Vs K G1 (List.replicate (k : Int).toNat vs).flatten (List.replicate k xs).flatten := by
        rw [Int.toNat_natCast]
        have all : ∀ m : Nat, Vs K G1 (List.replicate m vs).flatten (List.replicate m xs).flatten := by
          intro m
          induction m with
          | zero => exact .nil
          | succ m ih =>
            rw [List.replicate_succ, List.replicate_succ, List.flatten_cons, List.flatten_cons]
            exact Vs.cat o1 ih
        exact all k
      exact c p2 G1 _ _ Dd (Slots.set (SOk.of (show Ok K G1 (.ref p2) (.val (.ref p2)) from rfl)) i (Slots.mono e1 a)) (j2.ownNew hp2 vv) (cc.mono e1)
/-- xs.pop(i) of the list on top -/
theorem ed_popOwn {i : Nat} {P : Sx → En → Prop} (hi : δ[i]? = some (.val (.ref D))) (h : ED K f ⟨n, (D, es) :: r⟩ te δ P) (hl : es.length ≤ 100000)
    (k : ∀ s' x, P s' x → ∃ m j z, s' = ⟨m, (D, es) :: r⟩ ∧ x = .dat (.int ((j : Nat) : Int)) ∧ es[j]? = some z ∧ R ⟨m, (D, es.eraseIdx j) :: r⟩ z) : ED K f ⟨n, (D, es) :: r⟩ (tBM K "list" rPopAt (tVar i) (tCons te tNil)) δ R := fun G H σ Q sl b c => by
  obtain ⟨v, e0, o1⟩ := Slots.get sl hi rfl
  cases (show v = V.ref D from o1)
  obtain ⟨_, _, _, xs, e, vv⟩ := b.own D _ (List.mem_cons_self ..)
  refine ⟨_, e0, Or.inl ⟨rfl, xs, sq_of e⟩, h G H σ _ sl b fun w z s2 G2 H2 e2 j2 o2 p2 => ?_⟩
  obtain ⟨m, j, y, rfl, rfl, hy, hr⟩ := k s2 z p2
  cases o2
  obtain ⟨_, _, _, ys, e', vv'⟩ := j2.own D _ (List.mem_cons_self ..)
  have hj : j < es.length := (List.getElem?_eq_some_iff.mp hy).1
  obtain ⟨v2, hv2, ov2⟩ := Vs.get vv' hy
  refine ⟨D, ys, (j : Int), j, v2, rfl, rfl, e', by omega, by omega, ?_, hv2, ?_⟩
  · rw [vv'.len]
    exact (ixN_seq (Evl.ixN_nat hj)).1
  · have er : ∀ {vs : List V} {es : List En} (j : Nat), Vs K G2 vs es → Vs K G2 (vs.eraseIdx j) (es.eraseIdx j) := by
      intro vs es j hv
      induction hv generalizing j with
      | nil => exact .nil
      | cons a t ih =>
        cases j with
        | zero => exact t
        | succ j => exact .cons a (ih j)
    exact c _ y _ G2 _ e2 (j2.ownSet (er j vv')) ov2 hr
/-- xs.append(e), e anything -/
theorem sd_appN {i : Nat} {P : Sx → En → Prop} (hi : δ[i]? = some (.val (.ref D))) (h : ED K f ⟨n, (D, es) :: r⟩ te δ P) (k : ∀ s' x, P s' x → ∃ m es' r', s' = ⟨m, (D, es') :: r'⟩ ∧ es'.length < 100000 ∧ p.nx ⟨m, (D, es' ++ [x]) :: r'⟩ δ) : SD K f ⟨n, (D, es) :: r⟩ (tDrop (tBM K "list" rAppend (tVar i) (tCons te tNil))) δ p := fun G H σ Dd a b c => by
  obtain ⟨v, e0, o1⟩ := Slots.get a hi rfl
  cases (show v = V.ref D from o1)
  obtain ⟨_, _, _, xs, e, vv⟩ := b.own D _ (List.mem_cons_self ..)
  refine ⟨_, e0, Or.inl ⟨rfl, xs, sq_of e⟩, h G H σ _ a b fun w z s2 G2 H2 e2 j2 o2 p2 => ?_⟩
  obtain ⟨m, es', r', rfl, hl, hk⟩ := k s2 z p2
  obtain ⟨_, _, _, ys, e', vv'⟩ := j2.own D _ (List.mem_cons_self ..)
  exact ⟨D, ys, w, rfl, rfl, e', sz_lt (by rw [vv'.len]; exact hl), c.nx σ δ _ G2 _ e2 (j2.ownSet (Vs.app vv' o2)) (Slots.mono e2 a) hk⟩
/-- x = list(xs) that will be changed -/
theorem sd_listNew {i : Nat} {ds : List PyData} {c : PyData} (h : ED K f s te δ (Is s (.dat c))) (hk : c = .list ds ∨ c = .tuple ds) (k : ∀ D, SD K f ⟨s.n, (D, ds.map .dat) :: s.own⟩ u (δ.set i (.val (.ref D))) p) :
    SD K f s (tSeq (tAsg (tCB (fun xs H Q => ∃ p ys, xs = [.ref p] ∧ (SqL K H p ys ∨ SqT K H p ys) ∧ ∀ l, H l = none → Q (.ref l) (upd H l (.lst ys))) (tCons te tNil)) (gName i)) u) δ p := fun G H σ Dd a b cc =>
  h G H σ _ a b fun v x s1 G1 H1 e1 j1 o1 p1 => by
    obtain ⟨rfl, rfl⟩ := p1
    rcases hk with rfl | rfl
    · cases o1 with
      | lst sq al => exact ⟨_, _, rfl, .inl (ex_l j1.ex sq), fun q hq => k q G1 _ _ Dd (Slots.set (SOk.of (show Ok K G1 (.ref q) (.val (.ref q)) from rfl)) i (Slots.mono e1 a)) (j1.ownNew hq (Vs.of_dpa al)) (cc.mono e1)⟩
    · cases o1 with
      | tup sq al => exact ⟨_, _, rfl, .inr (ex_t j1.ex sq), fun q hq => k q G1 _ _ Dd (Slots.set (SOk.of (show Ok K G1 (.ref q) (.val (.ref q)) from rfl)) i (Slots.mono e1 a)) (j1.ownNew hq (Vs.of_dpa al)) (cc.mono e1)⟩
/-- the list on top is returned, as data -/
theorem ed_ownEnd {i : Nat} {ds : List PyData} (hi : δ[i]? = some (.val (.ref D))) : ED K f ⟨n, (D, ds.map .dat) :: r⟩ (tVar i) δ (Is ⟨n, r⟩ (.dat (.list ds))) := fun G H σ Q sl b c => by
  obtain ⟨v, e0, o1⟩ := Slots.get sl hi rfl
  cases (show v = V.ref D from o1)
  obtain ⟨xs, j2, vv, hg, hx⟩ := b.ownEnd
  have e2 : Ex G (upd G D (.lst xs)) := Ex.new hg
  exact ⟨_, e0, c _ (.dat (.list ds)) _ _ H e2 j2 (show Dp K _ _ _ from .lst (sq_of upd_same) (dpaMono e2 (Vs.dpa vv))) ⟨rfl, rfl⟩⟩
/-! ### for a, b in zip(t, u) of tuples -/
def gNs : List Nat → TGs
  | [] => gNil
  | i :: is => gCons (gName i) (gNs is)
def setAll : List En → List Nat → List En → List En
  | δ, i :: is, x :: xs => setAll (δ.set i x) is xs
  | δ, _, _ => δ
theorem gNs_ok {G H : Hp} {Q : St → Hp → Prop} : ∀ {is : List Nat} {vs : List V} {es : List En} {σ : St} {δ : List En}, is.length = vs.length → Vs K G vs es → Slots K G σ δ → (∀ σ', Slots K G σ' (setAll δ is es) → Q σ' H) → gNs is vs σ H Q
  | [], [], _, σ, δ, _, h, sl, k => by
    cases h
    exact ⟨rfl, k σ sl⟩
  | i :: is, v :: vs, _, σ, δ, hl, .cons a t, sl, k => ⟨v, vs, rfl, gNs_ok (by simpa using hl) t (Slots.set (SOk.of a) i sl) k⟩
  | [], _ :: _, _, _, _, hl, _, _, _ => by simp at hl
  | _ :: _, [], _, _, _, hl, _, _, _ => by simp at hl
/-- a, b, .. = t, a tuple of data -/
theorem sd_unpack {is : List Nat} {m : Nat} {ds : List PyData} (h : ED K f s te δ (Is s (.dat (.tuple ds)))) (hm : ds.length = m) (hi : is.length = m) (k : SD K f s u (setAll δ is (ds.map .dat)) p) : SD K f s (tSeq (tAsg te (gTup K m (gNs is))) u) δ p := fun G H σ Dd a b c =>
  h G H σ _ a b fun v x s1 G1 H1 e1 j1 o1 p1 => by
    obtain ⟨rfl, rfl⟩ := p1
    cases o1 with
    | tup sq al =>
      exact ⟨_, _, rfl, ex_t j1.ex sq, (dpa_len al).trans hm, gNs_ok (by rw [hi, dpa_len al, hm]) (Vs.of_dpa al) (Slots.mono e1 a) fun σ' sl => k G1 H1 σ' Dd sl j1 (c.mono e1)⟩
theorem sd_zipT {ta : TA} {i1 i2 : Nat} {ds ds2 : List PyData} (h : EA K f s ta δ (Is s [.dat (.tuple ds), .dat (.tuple ds2)])) (hl : ds.length = ds2.length) (W : Nat → Sx → List En → Prop) (h0 : W 0 s δ)
    (hs : ∀ i d d2 s' δ', ds[i]? = some d → ds2[i]? = some d2 → W i s' δ' → SD K f s' t ((δ'.set i1 (.dat d)).set i2 (.dat d2)) { p with nx := W (i + 1), ct := W (i + 1), bk := p.nx }) (hd : ∀ s' δ', W ds.length s' δ' → p.nx s' δ') : SD K f s (tFor (RZ.iZipA K ta) (gTup K 2 (gNs [i1, i2])) t) δ p := fun G H σ D a b c =>
  h G H σ _ a b fun vs xs s1 G1 H1 e1 j1 o1 p1 => by
    obtain ⟨rfl, rfl⟩ := p1
    cases o1 with
    | cons o1 o2 =>
      cases o2 with
      | cons o2 o3 =>
        cases o3
        cases o1 with
        | tup sq al =>
          cases o2 with
          | tup sq2 al2 =>
            rename_i ad xs ad2 ys
            refine ⟨ad, ad2, xs, ys, rfl, .inr ⟨ex_t j1.ex sq, ex_t j1.ex sq2, RZ.for_zipT (xs := xs) (ys := ys) (by rw [dpa_len al, dpa_len al2]; exact hl) (fun i => pAt K f G1 (W i)) ⟨s1, δ, G1, Ex.refl G1, j1, Slots.mono e1 a, h0⟩ (fun i σ' H' hp => ?_) (fun i x y T σ' H' hx hy hp hT => ?_) (fun σ' H' hp => ?_)⟩⟩
            · obtain ⟨s', δ', G', eg, jj, _⟩ := hp
              exact ⟨ex_t jj.ex (ex_t eg sq), ex_t jj.ex (ex_t eg sq2)⟩
            · obtain ⟨s', δ', G', eg, jj, sl, w⟩ := hp
              obtain ⟨d, hd', od⟩ := dpa_getV al hx
              obtain ⟨d2, hd2, od2⟩ := dpa_getV al2 hy
              have vv : Vs K G' [x, y] [.dat d, .dat d2] := .cons (show Ok K G' x (.dat d) from dpMono eg od) (.cons (show Ok K G' y (.dat d2) from dpMono eg od2) .nil)
              exact ⟨T, [x, y], rfl, st_of upd_same, rfl, gNs_ok rfl vv sl fun σ2 sl2 => hs i d d2 s' δ' hd' hd2 w G' _ σ2 _ sl2 (jj.allocH hT _) (sat_turn (c.mono e1) eg)⟩
            · obtain ⟨s', δ', G', eg, jj, sl, w⟩ := hp
              rw [dpa_len al] at w
              exact c.nx σ' δ' s' G' H' (e1.trans eg) jj sl (hd s' δ' w)
end
end Dl

namespace Dl
open PySem L2 Evl
section
variable {K : PySem.W.Frag} {f : Fx} {s : Sx} {δ : List En} {ta tb te tl to : TE} {tt tu : TT} {P R : Sx → En → Prop} {t u : TS} {p : Po} {n c : Nat} {D : Addr} {es : List En} {w : List (Addr × List En)} {Pe : PyData → PyData → Prop}
/-! ### comprehensions whose elements draw: c draws each -/
def lcAtN (K : PySem.W.Frag) (f : Fx) (Pe : PyData → PyData → Prop) (n c : Nat) (w : List (Addr × List En)) (G1 : Hp) (Dl : Addr) (ds : List PyData) (i : Nat) (H : Hp) : Prop := ∃ G' rs, Ex G1 G' ∧ Paired Pe (ds.take i) rs ∧ J K f ⟨n + c * (ds.length - i), (Dl, rs.map .dat) :: w⟩ G' H
theorem lcN_turn {G1 H : Hp} {σ2 : St} {δ2 : List En} {Dl : Addr} {ds : List PyData} {i : Nat} {d : PyData} (hl : ds.length ≤ 90000) (e : ds[i]? = some d) (h : lcAtN K f Pe n c w G1 Dl ds i H)
    (sl : ∀ G', Ex G1 G' → Slots K G' σ2 δ2) (he : ∀ k w', ED K f ⟨k + c, w'⟩ te δ2 (fun s' x => s' = ⟨k, w'⟩ ∧ ∃ r, x = .dat r ∧ Pe d r)) :
    tYes σ2 H fun b H3 => if b = true then te σ2 H3 fun y H4 => ∃ acc, H4 Dl = some (.lst acc) ∧ acc.length < sizeLine ∧ lcAtN K f Pe n c w G1 Dl ds (i + 1) (upd H4 Dl (.lst (acc ++ [y]))) else lcAtN K f Pe n c w G1 Dl ds (i + 1) H3 := by
  obtain ⟨G', rs, eg, pr, jj⟩ := h
  have hi : i < ds.length := (List.getElem?_eq_some_iff.mp e).1
  have ek : n + c * (ds.length - i) = (n + c * (ds.length - (i + 1))) + c := by
    have : ds.length - i = (ds.length - (i + 1)) + 1 := by omega
    rw [this, Nat.mul_add, Nat.mul_one]
    omega
  rw [ek] at jj
  show te σ2 H _
  refine he _ _ G' H σ2 _ (sl G' eg) jj fun y x s2 G3 H3 e3 j3 o3 q3 => ?_
  obtain ⟨rfl, r, rfl, pe⟩ := q3
  obtain ⟨a1, a2, a3, acc, a4, a5⟩ := j3.own Dl _ (List.mem_cons_self ..)
  refine ⟨acc, a4, sz_lt ?_, G3, rs ++ [r], eg.trans e3, ?_, ?_⟩
  · rw [a5.len, List.length_map, ← Paired.length pr, List.length_take]
    omega
  · rw [List.take_add_one, e]
    exact Paired.snoc pr pe
  · rw [List.map_append]
    exact j3.ownSet (Vs.app a5 o3)
theorem lcN_end {G1 H : Hp} {Q : VK} {Dl : Addr} {ds : List PyData} {G : Hp} (eG : Ex G G1) (h : lcAtN K f Pe n c w G1 Dl ds ds.length H)
    (k : ∀ v z s' G2 H2, Ex G G2 → J K f s' G2 H2 → Ok K G2 v z → (s' = ⟨n, w⟩ ∧ ∃ rs, Paired Pe ds rs ∧ z = .dat (.list rs)) → Q v H2) : Q (.ref Dl) H := by
  obtain ⟨G', rs, eg, pr, jj⟩ := h
  rw [List.take_length] at pr
  rw [Nat.sub_self, Nat.mul_zero, Nat.add_zero] at jj
  obtain ⟨xs, j2, v, hg, hx⟩ := jj.ownEnd
  have e2 : Ex G' (upd G' Dl (.lst xs)) := Ex.new hg
  exact k _ (.dat (.list rs)) _ _ H ((eG.trans eg).trans e2) j2 (show Dp K _ _ _ from .lst (sq_of upd_same) (dpaMono e2 (Vs.dpa v))) ⟨rfl, rs, pr, rfl⟩
theorem ed_lcRN {ta : TA} {m j : Nat} (h : EA K f ⟨n + c * m, w⟩ ta δ (Is ⟨n + c * m, w⟩ [.dat (.int (m : Int))])) (hl : m ≤ 90000)
    (he : ∀ d, d ∈ rngD m → ∀ k w', ED K f ⟨k + c, w'⟩ te ((wipeE δ [j]).set j (.dat d)) (fun s' x => s' = ⟨k, w'⟩ ∧ ∃ r, x = .dat r ∧ Pe d r)) :
    ED K f ⟨n + c * m, w⟩ (tLc (iRng1 ta) (gName j) tYes te [j]) δ (fun s' x => s' = ⟨n, w⟩ ∧ ∃ rs, Paired Pe (rngD m) rs ∧ x = .dat (.list rs)) := fun G H σ Q a b cc =>
  h G H σ _ a b fun v x s1 G1 H1 e1 j1 o1 p1 => by
    obtain ⟨rfl, rfl⟩ := p1
    cases o1 with
    | cons o1 o2 =>
      cases o2
      cases o1
      refine ⟨m, rfl, by omega, by omega, fun Dl hD => lc_range (lo := 0) (n := ((m : Int)).toNat) (fun i => lcAtN K f Pe n c w G1 Dl (rngD m) i) ⟨G1, [], Ex.refl G1, .nil, ?_⟩ (fun i H' hi hp => ?_) (fun H' hp => ?_)⟩
      · rw [rngD_len, Nat.sub_zero]
        exact j1.ownNew hD .nil
      · have e0 : (0 : Int) + (i : Int) = (i : Int) := Int.zero_add _
        have hd' := rngD_get (n := m) (i := i) (by omega)
        have q := lcN_turn (σ2 := (wipe σ [j]).set j (some (.int (i : Int)))) (te := te) (by rw [rngD_len]; exact hl) hd' hp (fun G' eg => Slots.set (SOk.of (show Ok K G' (.int (i : Int)) (.dat (.int (i : Int))) from .int _)) j (Slots.wipe (Slots.mono (e1.trans eg) a) [j])) (he _ (List.mem_of_getElem? hd'))
        show wipe ((wipe σ [j]).set j (some (.int ((0 : Int) + (i : Int))))) [j] = wipe σ [j] ∧ tYes ((wipe σ [j]).set j (some (.int ((0 : Int) + (i : Int))))) H' _
        rw [e0]
        exact ⟨wipe1, q⟩
      · rw [Int.toNat_natCast] at hp
        have hp' : lcAtN K f Pe n c w G1 Dl (rngD m) (rngD m).length H' := by rw [rngD_len]; exact hp
        exact lcN_end e1 hp' cc
theorem ed_lcTN {ds : List PyData} {j : Nat} (h : ED K f ⟨n + c * ds.length, w⟩ tl δ (Is ⟨n + c * ds.length, w⟩ (.dat (.tuple ds)))) (hl : ds.length ≤ 90000)
    (he : ∀ d, d ∈ ds → ∀ k w', ED K f ⟨k + c, w'⟩ te ((wipeE δ [j]).set j (.dat d)) (fun s' x => s' = ⟨k, w'⟩ ∧ ∃ r, x = .dat r ∧ Pe d r)) :
    ED K f ⟨n + c * ds.length, w⟩ (tLc (iTup K tl) (gName j) tYes te [j]) δ (fun s' x => s' = ⟨n, w⟩ ∧ ∃ rs, Paired Pe ds rs ∧ x = .dat (.list rs)) := fun G H σ Q a b cc =>
  h G H σ _ a b fun v x s1 G1 H1 e1 j1 o1 p1 => by
    obtain ⟨rfl, rfl⟩ := p1
    cases o1 with
    | tup sq al =>
      rename_i ad xs
      refine ⟨ad, rfl, ⟨xs, ex_t j1.ex sq⟩, fun Dl hD => lc_tup (xs := xs) (fun i => lcAtN K f Pe n c w G1 Dl ds i) ⟨G1, [], Ex.refl G1, .nil, j1.ownNew hD .nil⟩ (fun i H' _ hp => ?_) (fun i y H' hy hp => ⟨wipe1, ?_⟩) (fun H' hp => ?_)⟩
      · obtain ⟨G', rs, eg, _, jj⟩ := hp
        exact ex_t jj.ex (ex_t eg sq)
      · obtain ⟨d, hd', od⟩ := dpa_getV al hy
        exact lcN_turn hl hd' hp (fun G' eg => Slots.set (SOk.of (show Ok K G' y (.dat d) from dpMono eg od)) j (Slots.wipe (Slots.mono (e1.trans eg) a) [j])) (he d (List.mem_of_getElem? hd'))
      · rw [dpa_len al] at hp
        exact lcN_end e1 hp cc
end
/-! ### tuples cut and put together -/
section
variable {X : Cx}
def rSlF (K : PySem.W.Frag) : V → Option Int → Option Int → Hp → VK → Prop := fun x lo hi H Q => ∃ a xs, x = .ref a ∧ SqT K H a xs ∧
  (HT.sIx xs.length 0 lo = 0 ∧ HT.sIx xs.length xs.length hi = xs.length → Q (.ref a) H) ∧ (¬ (HT.sIx xs.length 0 lo = 0 ∧ HT.sIx xs.length xs.length hi = xs.length) → ∀ q o, o.dict = none → H q = none → Q (.ref q) (upd H q (.frz o (.tup (cutV xs lo hi)))))
theorem sl_tupF : SlR X (rSlF X.K) := by
  intro pins s σ H x v vl vu lo hi sl Q I rx hs pl pu h
  obtain ⟨a, xs, rfl, hx, q1, q2⟩ := h
  cases rx
  obtain ⟨its, r, ht, hz⟩ := I.tuple hx
  have hn : its.toArray.size = xs.length := by rw [List.size_toArray]; exact r.length.symm
  refine ⟨"tuple", _, PyProof.Rows.slot_tuple_getitem.lookup, ht.typeIs, ?_⟩
  by_cases hw : HT.sIx xs.length 0 lo = 0 ∧ HT.sIx xs.length xs.length hi = xs.length
  · exact getItem_tuple_whole ht hs pl pu (by rw [hn]; exact hw) ⟨.ref a, H, I, rfl, q1 hw⟩
  · refine HT.getItem_tuple_cut ht hs pl pu (by rw [hn]; exact hw) ?_ (by rw [hn]; exact hz)
    rw [hn]
    refine ⟨.ref s.heap.objs.size, _, I.laid (t' := s.toks) (o := .frz _ (.tup (cutV xs lo hi))) (fun b ob q => Heap.get?_push_of_some _ q) (Nat.le_refl _) ⟨Heap.get?_push_size _ rfl, Nat.le_trans (cutV_length xs lo hi) hz, _, (r.drop (HT.sIx xs.length 0 lo)).take (HT.sIx xs.length xs.length hi - HT.sIx xs.length 0 lo), ⟨_, Heap.get?_push_size _ rfl, rfl, _, rfl⟩⟩, rfl, q2 hw _ _ rfl (I.hok.fresh (Nat.le_refl _))⟩
def rCatF (K : PySem.W.Frag) : R2 := fun x y H Q => ∃ a b xs ys, x = .ref a ∧ y = .ref b ∧ SqT K H a xs ∧ SqT K H b ys ∧ xs.length + ys.length ≤ sizeLine ∧
  (xs = [] → Q (.ref b) H) ∧ (xs ≠ [] → ys = [] → Q (.ref a) H) ∧ (xs ≠ [] → ys ≠ [] → ∀ q o, o.dict = none → H q = none → Q (.ref q) (upd H q (.frz o (.tup (xs ++ ys)))))
theorem op_catF : OpR X (binaryOp .Add) (rCatF X.K) := by
  intro pins s σ H x y v u Q I rx ry h
  obtain ⟨a, b, xs, ys, rfl, rfl, ha, hb, hz, q0, q1, q2⟩ := h
  cases rx
  cases ry
  obtain ⟨its, r1, p1, _⟩ := I.tuple ha
  obtain ⟨its2, r2, p2, _⟩ := I.tuple hb
  by_cases hx : xs = []
  · subst hx
    cases r1
    exact cat_tup0 p1 p2 ⟨.ref b, H, I, rfl, q0 rfl⟩
  · refine HT.cat_tup p1 p2 (fun z => hx (r1.nil_iff.mp z)) (fun z => ⟨.ref a, H, I, rfl, q1 hx (r2.nil_iff.mp z)⟩) (fun z => ?_) (by rw [← r1.length, ← r2.length]; exact hz)
    refine ⟨.ref s.heap.objs.size, _, I.laid (t' := s.toks) (o := .frz _ (.tup (xs ++ ys))) (fun b ob q => Heap.get?_push_of_some _ q) (Nat.le_refl _) ⟨Heap.get?_push_size _ rfl, by rw [List.length_append]; exact hz, _, r1.append r2, ⟨_, Heap.get?_push_size _ rfl, rfl, _, rfl⟩⟩, rfl, q2 hx (fun w => z (r2.nil_iff.mpr w)) _ _ rfl (I.hok.fresh (Nat.le_refl _))⟩
/-- min of a tuple of ints -/
def rMinT (K : PySem.W.Frag) : List V → Hp → VK → Prop := fun vs H Q => ∃ (a : Addr) (ns : List Int), vs = [V.ref a] ∧ SqT K H a (ns.map V.int) ∧ 0 < ns.length ∧ ∀ m, m ∈ ns → (∀ y, y ∈ ns → m ≤ y) → Q (.int m) H
open PySem.Spec PyProof.Rows in
theorem min_tup {prog : Program} {w : World} {A : Around} {E : Value → Shared → Prop} {s : Shared} {l : Addr} {its : List Value} {ns : List Int} {Q : Value → Shared → Prop} (hh : A.handled = none) (hl : s.heap.IsTuple l its.toArray) (hi : IntsAre its ns) (hne : 0 < ns.length)
    (h : ∀ h' tk M t', (∀ b o, s.heap.get? b = some o → h'.get? b = some o) → M ∈ ns → (∀ a, a ∈ ns → M ≤ a) → Q (.int M t') { s with heap := h', toks := tk }) : wpAny (model prog w) A (call (.builtin "min") [.ref l]) Q E s := by
  obtain ⟨xs, e⟩ := hi.allInts.items
  have hn : numsOf (intItems xs).toList = ns := by rw [← e]; exact hi.numsOf
  rw [nums_intItems] at hn
  subst hn
  rw [e] at hl
  have hsz : 0 < xs.size := by simpa using hne
  have hlt : l < s.heap.objs.size := by obtain ⟨_, e, _⟩ := hl; exact Heap.lt_size e
  refine call_min_walk (wpAny_pyIter_tuple hl ?_)
  refine ⟨_, [_, l], [_], _, _, _, _, rfl, Walks.tuple (A := A.in1) hh _ l (Nat.ne_of_lt hlt) (intItems xs), ⟨⟨_, Heap.get?_push_size _ rfl, rfl, rfl⟩, hl.push _⟩, fun b hb => ?_, by simpa [intItems] using hsz, CmpOf.ints_lt (numAt xs) (fun _ _ => intItems_at), fun v h' tk hP hk => ?_⟩
  · show b < (s.heap.push _).objs.size
    rw [Heap.size_push]
    rcases List.mem_cons.mp hb with rfl | hb
    · exact Nat.lt_succ_self _
    · rcases List.mem_cons.mp hb with rfl | hb
      · exact Nat.lt_succ_of_lt hlt
      · cases hb
  · have hP' : (intItems xs)[argBest (fun i j => decide (numAt xs i < numAt xs j)) (xs.size - 1)]? = some v := by simpa [intItems] using hP
    obtain ⟨t, rfl⟩ := intItems_at hP'
    obtain ⟨h1, h2⟩ := argBest_lt (numAt xs) (xs.size - 1)
    refine h h' tk _ t (fun b o e => hk b o (fun hm => ?_) (Heap.get?_push_of_some _ e)) ?_ fun a ha => ?_
    · rcases List.mem_cons.mp hm with e1 | hm
      · exact absurd (e1 ▸ Heap.lt_size e) (Nat.lt_irrefl _)
      · cases hm
    · rw [numAt_eq]; exact PySem.getD_mem (by rw [List.length_map, Array.length_toList]; omega)
    · obtain ⟨j, hj, rfl⟩ := mem_getD ha
      rw [List.length_map, Array.length_toList] at hj
      rw [← numAt_eq]; exact h2 j (by omega)
open PySem.Spec PyProof.Rows in
theorem cr_minT (hc : X.calm = true) : CallR X (.builtin "min") (rMinT X.K) := by
  intro pins s σ H vs us Q I r h
  obtain ⟨a, ns, rfl, hs, hne, q⟩ := h
  obtain ⟨its, rv, hl, _⟩ := I.tuple hs
  rw [Vals.ref1 r]
  exact min_tup (I.ok.hd hc) hl rv.ints hne fun h' tk m t' hk h1 h2 => ⟨.int _, H, I.kept hk, ⟨_, rfl⟩, q m h1 h2⟩
end
section
variable {K : PySem.W.Frag} {f : Fx} {s : Sx} {δ : List En} {ta tb te : TE}
theorem cd_minT {ns : List Int} (hn : 0 < ns.length) : CD K f (rMinT K) s [.dat (.tuple (ns.map .int))] (fun s' x => s' = s ∧ ∃ m, m ∈ ns ∧ (∀ y ∈ ns, m ≤ y) ∧ x = .dat (.int m)) := fun G H vs Q jj a k => by
  cases a with
  | cons h t =>
    cases t
    obtain ⟨ad, rfl, sq⟩ := dp_tints h
    exact ⟨ad, ns, rfl, ex_t jj.ex sq, hn, fun m h1 h2 => k _ (.dat (.int m)) s G H (Ex.refl G) jj (.int _) ⟨rfl, m, h1, h2, rfl⟩⟩
def cutD (xs : List PyData) (lo hi : Option Int) : List PyData := (xs.drop (HT.sIx xs.length 0 lo)).take (HT.sIx xs.length xs.length hi - HT.sIx xs.length 0 lo)
theorem dpa_cut {G : Hp} {vs : List V} {ds : List PyData} (h : DpAll K G vs ds) (lo hi : Option Int) : DpAll K G (cutV vs lo hi) (cutD ds lo hi) := by
  unfold cutV cutD
  rw [dpa_len h]
  exact Vs.dpa (by
    have := Vs.takeN (HT.sIx ds.length ds.length hi - HT.sIx ds.length 0 lo) (Vs.dropN (HT.sIx ds.length 0 lo) (Vs.of_dpa h))
    rw [← List.map_drop, ← List.map_take] at this
    exact this)
theorem ed_slT {tl th : TO} {ds : List PyData} {lo hi : Option Int} (h : ED K f s te δ (Is s (.dat (.tuple ds)))) (h1 : ∀ G σ (Q : Option Int → Hp → Prop), Q lo G → tl σ G Q) (h2 : ∀ G σ (Q : Option Int → Hp → Prop), Q hi G → th σ G Q) : ED K f s (tSl (rSlF K) te tl th) δ (Is s (.dat (.tuple (cutD ds lo hi)))) := fun G H σ Q sl b k =>
  h G H σ _ sl b fun v x s1 G1 H1 e1 j1 o1 p1 => by
    obtain ⟨rfl, rfl⟩ := p1
    cases o1 with
    | tup sq al =>
      rename_i ad xs
      refine h1 H1 σ _ (h2 H1 σ _ ⟨ad, xs, rfl, ex_t j1.ex sq, fun hw => ?_, fun hw q o ho hq => ?_⟩)
      · have e : cutD ds lo hi = ds := by
          unfold cutD
          rw [dpa_len al] at hw
          rw [hw.1, hw.2, List.drop_zero, Nat.sub_zero, List.take_length]
        rw [e] at k
        exact k _ (.dat (.tuple ds)) _ G1 H1 e1 j1 (show Dp K _ _ _ from .tup sq al) ⟨rfl, rfl⟩
      · exact fT (fun w z s' G2 H2 e3 => k w z s' G2 H2 (e1.trans e3)) j1 (dpa_cut al lo hi) ho hq
theorem od_catF {ds es : List PyData} (hl : ds.length + es.length ≤ 100000) : OD K f (rCatF K) s (.dat (.tuple ds)) (.dat (.tuple es)) (Is s (.dat (.tuple (ds ++ es)))) := fun G H v u Q jj a b k => by
  cases a with
  | tup sq al =>
    cases b with
    | tup sq2 al2 =>
      rename_i a1 xs a2 ys
      have hx : xs.length = ds.length := dpa_len al
      have hy : ys.length = es.length := dpa_len al2
      refine ⟨a1, a2, xs, ys, rfl, rfl, ex_t jj.ex sq, ex_t jj.ex sq2, sz_of (by omega), fun z => ?_, fun _ z => ?_, fun _ _ q o ho hq => ?_⟩
      · subst z
        cases al
        exact fD k jj (.tup sq2 al2)
      · subst z
        cases al2
        rw [List.append_nil] at k
        exact fD k jj (.tup sq al)
      · have app : ∀ {xs : List V} {ds : List PyData}, DpAll K G xs ds → DpAll K G (xs ++ ys) (ds ++ es) := by
          intro xs ds h
          exact Vs.dpa (by rw [List.map_append]; exact Vs.cat (Vs.of_dpa h) (Vs.of_dpa al2))
        exact fT k jj (app al) ho hq
/-! ### defs that draw -/
def spU (K : PySem.W.Frag) (A : Nat → List En → Prop) (R : Nat → List En → Nat → En → Prop) : Sp := fun vs H Q _ => ∃ p c n G es us, vs = .ref p :: us ∧ Ex G H ∧ TF G ∧ G p = none ∧ G c = none ∧ PurseAt H p c n ∧ Vs K G us es ∧ A n es ∧
  ∀ v x m G2 H2, Ex G G2 → Ex G2 H2 → TF G2 → G2 p = none → G2 c = none → PurseAt H2 p c m → (∀ b o, b ≠ p → b ≠ c → H b = some o → H2 b = some o) → (∀ b, G2 b ≠ none → G b = none → H b = none) → Ok K G2 v x → R n es m x → Q v H2
theorem J.pureU {G H G2 H2 : Hp} {n m : Nat} {r : List (Addr × List En)} {p c : Addr} (j : J K f ⟨n, r⟩ G H) (e : f.pu = some (p, c)) (e1 : Ex G G2) (e2 : Ex G2 H2) (t2 : TF G2) (g1 : G2 p = none) (g2 : G2 c = none) (u : PurseAt H2 p c m) (k : ∀ b o, b ≠ p → b ≠ c → H b = some o → H2 b = some o) (fr : ∀ b, G2 b ≠ none → G b = none → H b = none) : J K f ⟨m, r⟩ G2 H2 := by
  obtain ⟨_, _, hp, hc, hpu⟩ := j.pu p c e
  refine ⟨e2, fun D fs q => ?_, j.nd, fun p' c' e' => ?_, fun d o h1 h2 => ?_, j.g0.trans e1, fun b h1 h2 => ?_, t2⟩
  · obtain ⟨x1, x2, x3, xs, x4, x5⟩ := j.own D fs q
    refine ⟨?_, x2, x3, xs, k D _ (fun z => x3 ⟨p, c, e, .inl z⟩) (fun z => x3 ⟨p, c, e, .inr z⟩) x4, x5.mono e1⟩
    cases q2 : G2 D with
    | none => rfl
    | some o =>
      have := fr D (by rw [q2]; simp) x1
      rw [x4] at this
      cases this
  · rw [e] at e'
    cases e'
    exact ⟨g1, g2, hp, hc, u⟩
  · exact k d o (fun z => h1 ⟨p, c, e, .inl z⟩) (fun z => h1 ⟨p, c, e, .inr z⟩) (j.fr d o h1 h2)
  · cases q : G b with
    | some o => exact j.fs b (by rw [q]; simp) h2
    | none =>
      have h := fr b h1 q
      cases r' : f.H0 b with
      | none => rfl
      | some o =>
        by_cases hb : isPu f b
        · obtain ⟨p', c', e1', e2'⟩ := hb
          rw [e] at e1'
          cases e1'
          obtain ⟨cs, t, x, y, _⟩ := hpu.ex
          rcases e2' with e2' | e2'
          · rw [e2'] at h; rw [x] at h; cases h
          · rw [e2'] at h; rw [y] at h; cases h
        · have := j.fr b o hb r'
          rw [h] at this; cases this
theorem ed_callU {A : Nat → List En → Prop} {R : Nat → List En → Nat → En → Prop} {E : XK} {t : TA} {i : Nat} {p c : Addr} {PA : Sx → List En → Prop} {P : Sx → En → Prop} (hf : f.pu = some (p, c)) (hi : δ[i]? = some (.val (.ref p))) (h : EA K f s t δ PA)
    (a : ∀ s' es, PA s' es → ∃ n r, s' = ⟨n, r⟩ ∧ A n es ∧ ∀ m x, R n es m x → P ⟨m, r⟩ x) : ED K f s (tCall (spU K A R) [] E (tCons (tVar i) t)) δ P := fun G H σ Q sl b k => by
  obtain ⟨v, e0, o0⟩ := Slots.get sl hi rfl
  cases (show v = V.ref p from o0)
  refine ⟨_, e0, h G H σ _ sl b fun vs xs s1 G1 H1 e1 j1 o1 p1 => ?_⟩
  obtain ⟨n, r, rfl, ha, hR⟩ := a s1 xs p1
  obtain ⟨g1, g2, _, _, pu⟩ := j1.pu p c hf
  rw [List.append_nil]
  exact ⟨p, c, n, G1, xs, vs, rfl, j1.ex, j1.tf, g1, g2, pu, o1, ha, fun w x m G2 H2 x1 x2 x3 x4 x5 x6 x7 x8 x9 x10 => k w x ⟨m, r⟩ G2 H2 (e1.trans x1) (j1.pureU hf x1 x2 x3 x4 x5 x6 x7 x8) x9 (hR m x x10)⟩
theorem run_purse {A : Nat → List En → Prop} {R : Nat → List En → Nat → En → Prop} {N : List Str} {vs : List V} {H : Hp} {Q : VK} {E : XK} {t : TS} (h : spU K A R vs H Q E)
    (hb : ∀ f p c n es, f.pu = some (p, c) → A n es → SD K f ⟨n, []⟩ t (.val (.ref p) :: es ++ List.replicate (N.length - (es.length + 1)) .no) ⟨fun s' _ => R n es s'.n (.dat .none), fun s' x => R n es s'.n x, fun _ _ => False, fun _ _ => False⟩) : t { nx := fun _ H' => Q .non H', rt := Q } (L2.start N vs) H := by
  obtain ⟨p, c, n, G, es, us, rfl, e, tf, gp, gc, pu, v, a, k⟩ := h
  obtain ⟨cs, tt, x, y, _⟩ := id pu.ex
  have jj : J K ⟨some (p, c), H, G⟩ ⟨n, []⟩ G H := ⟨e, (fun D es m => by cases m), List.nodup_nil, (fun p' c' z => by
    cases z
    exact ⟨gp, gc, (by show H p ≠ none; rw [x]; simp), (by show H c ≠ none; rw [y]; simp), pu⟩), fun b o _ z => z, Ex.refl G, fun b h1 h2 => absurd h2 h1, tf⟩
  have v' : Vs K G (.ref p :: us) (.val (.ref p) :: es) := .cons rfl v
  have sl : Slots K G (L2.start N (.ref p :: us)) (.val (.ref p) :: es ++ List.replicate (N.length - (es.length + 1)) .no) := by
    unfold L2.start
    rw [v'.len]
    exact Slots.start v' _
  have np : ∀ b, b ≠ p → b ≠ c → ¬ isPu (⟨some (p, c), H, G⟩ : Fx) b := fun b h1 h2 ⟨p', c', z, q⟩ => by
    cases z
    rcases q with q | q
    · exact h1 q
    · exact h2 q
  refine hb ⟨some (p, c), H, G⟩ p c n es rfl a G H _ _ sl jj ⟨fun σ δ s' G2 H2 e2 j2 _ r => ?_, fun w x s' G2 H2 e2 j2 o r => ?_, fun _ _ _ _ _ _ _ _ z => z.elim, fun _ _ _ _ _ _ _ _ z => z.elim⟩
  · obtain ⟨g1, g2, _, _, pu2⟩ := j2.pu p c rfl
    exact k .non (.dat .none) s'.n G2 H2 e2 j2.ex j2.tf g1 g2 pu2 (fun b o n1 n2 z => j2.fr b o (np b n1 n2) z) j2.fs .non r
  · obtain ⟨g1, g2, _, _, pu2⟩ := j2.pu p c rfl
    exact k w x s'.n G2 H2 e2 j2.ex j2.tf g1 g2 pu2 (fun b o n1 n2 z => j2.fr b o (np b n1 n2) z) j2.fs o r
theorem spU_len {A : Nat → List En → Prop} {R : Nat → List En → Nat → En → Prop} {n : Nat} (hA : ∀ m es, A m es → es.length + 1 = n) (vs : List V) (H : Hp) (Q : VK) (E : XK) (h : spU K A R vs H Q E) : vs.length = n := by
  obtain ⟨p, c, m, G, es, us, rfl, _, _, _, _, _, v, a, _⟩ := h
  show us.length + 1 = n
  rw [v.len, hA m es a]
end
end Dl

namespace Dl
open PySem L2 Evl
section
variable {K : PySem.W.Frag} {f : Fx} {s : Sx} {δ : List En} {ta tb te tl to : TE} {tt tu : TT} {P R : Sx → En → Prop} {t u : TS} {p : Po} {n c : Nat} {D : Addr} {es : List En} {w : List (Addr × List En)}
theorem own_dpM {G H : Hp} {ds : List PyData} (hm : (D, ds.map .dat) ∈ s.own) (j : J K f s G H) : Dp K H (.ref D) (.list ds) := by
  obtain ⟨_, _, _, xs, e, v⟩ := j.own D _ hm
  exact .lst (sq_of e) (dpaMono j.ex (Vs.dpa v))
theorem od_neOwnM {d : PyData} {ds : List PyData} (hm : (D, ds.map .dat) ∈ s.own) (h1 : SeqAt.shaped d = true) (h2 : SeqAt.shaped (.list ds) = true) : OD K f (rNeD K) s (.val (.ref D)) (.dat d) (Is s (.dat (.bool (!PyData.eqv (.list ds) d)))) := fun G H u v Q jj b a c => by
  cases (show u = V.ref D from b)
  exact ⟨.list ds, d, own_dpM hm jj, dpMono jj.ex a, h2, h1, fD c jj (.bl _)⟩
theorem cd_lenOwnM (hm : (D, es) ∈ s.own) : CD K f (fun xs H Q => ∃ p ys, xs = [.ref p] ∧ (SqL K H p ys ∨ SqT K H p ys) ∧ Q (.int ys.length) H) s [.val (.ref D)] (Is s (.dat (.int es.length))) := fun G H vs Q jj a k => by
  cases a with
  | cons h t =>
    cases t
    cases (show _ = V.ref D from h)
    obtain ⟨_, _, _, xs, e, v⟩ := jj.own D _ hm
    refine ⟨D, xs, rfl, .inl (sq_of e), ?_⟩
    rw [v.len]
    exact fD k jj (.int _)
/-- tuple(e), e any list -/
theorem ed_tupleN {L : Sx → List PyData → Prop} (h : ED K f s te δ (fun s' x => ∃ rs, x = .dat (.list rs) ∧ L s' rs)) (k : ∀ s' rs, L s' rs → P s' (.dat (.tuple rs))) : ED K f s (tCB (rTupF K) (tCons te tNil)) δ P := fun G H σ Q sl b c =>
  h G H σ _ sl b fun v x s1 G1 H1 e1 j1 o1 p1 => by
    obtain ⟨rs, rfl, hL⟩ := p1
    refine cd_tuple G1 H1 [v] Q j1 (.cons o1 .nil) fun w z s' G2 H2 e2 j2 o2 p2 => ?_
    obtain ⟨rfl, rfl⟩ := p2
    exact c w _ _ G2 H2 (e1.trans e2) j2 o2 (k _ _ hL)
theorem ed_stateE {s2 : Sx} (h : ED K f s2 te δ P) (e : s2 = s) : ED K f s te δ P := e ▸ h
/-- if c: .. (that can't be) -/
theorem sd_whenX {PT : Sx → Bool → Prop} (h : ET K f s tt δ PT) (h1 : ∀ s1, PT s1 true → False) (h2 : ∀ s1, PT s1 false → SD K f s1 u δ p) : SD K f s (tSeq (tIfS tt t tNext) u) δ p := sd_when h (fun s1 q => (h1 s1 q).elim) h2
theorem ed_post (h : ED K f s te δ P) (k : ∀ s' x, P s' x → ∃ n a b r, s' = ⟨n, a :: b :: r⟩ ∧ R ⟨n, b :: a :: r⟩ x) : ED K f s te δ R := fun G H σ Q sl j c => h G H σ Q sl j fun v x s' G2 H2 e2 j2 o2 p2 => by
  obtain ⟨n, a, b, r, rfl, q⟩ := k s' x p2
  exact c v x _ G2 H2 e2 j2.swap o2 q
end
end Dl

namespace Dl
open PySem L2 Evl
section
variable {K : PySem.W.Frag} {f : Fx} {s : Sx} {G H G2 H2 : Hp}
/-- a scope of its own: all that stands is kept, the lists that are changed outside are not told inside -/
theorem J.enter {n : Nat} {r : List (Addr × List En)} (j : J K f ⟨n, r⟩ G H) : J K ⟨f.pu, H, G⟩ ⟨n, []⟩ G H :=
  ⟨j.ex, (fun D es m => by cases m), List.nodup_nil, (fun p c e => by
    obtain ⟨a, b, hp, hc, u⟩ := j.pu p c e
    obtain ⟨cs, t, x, y, _⟩ := id u.ex
    exact ⟨a, b, (by show H p ≠ none; rw [x]; simp), (by show H c ≠ none; rw [y]; simp), u⟩), fun b o _ z => z, Ex.refl G, fun b h1 h2 => absurd h2 h1, j.tf⟩
theorem J.leave {n m : Nat} {r : List (Addr × List En)} (j : J K f ⟨n, r⟩ G H) (k : J K ⟨f.pu, H, G⟩ ⟨m, []⟩ G2 H2) : J K f ⟨m, r⟩ G2 H2 := by
  have iso : ∀ b, isPu (⟨f.pu, H, G⟩ : Fx) b ↔ isPu f b := fun b => Iff.rfl
  have e1 : Ex G G2 := k.g0
  refine ⟨k.ex, fun D es q => ?_, j.nd, fun p c e => ?_, fun b o h1 h2 => k.fr b o (fun z => h1 z) (j.fr b o h1 h2), j.g0.trans e1, fun b h1 h2 => ?_, k.tf⟩
  · obtain ⟨x1, x2, x3, xs, x4, x5⟩ := j.own D es q
    refine ⟨?_, x2, x3, xs, k.fr D _ (fun z => x3 z) x4, x5.mono e1⟩
    cases q2 : G2 D with
    | none => rfl
    | some o =>
      have := k.fs D (by rw [q2]; simp) x1
      have this : H D = none := this
      rw [x4] at this
      cases this
  · obtain ⟨a, b, _, _, u⟩ := k.pu p c e
    obtain ⟨_, _, hp, hc, _⟩ := j.pu p c e
    exact ⟨a, b, hp, hc, u⟩
  · cases q : G b with
    | some o => exact j.fs b (by rw [q]; simp) h2
    | none =>
      have h : H b = none := k.fs b h1 q
      cases r' : f.H0 b with
      | none => rfl
      | some o =>
        by_cases hb : isPu f b
        · obtain ⟨p', c', e1', e2'⟩ := hb
          obtain ⟨_, _, _, _, ⟨cs, t, x, y, _⟩⟩ := j.pu p' c' e1'
          rcases e2' with e2' | e2'
          · rw [e2'] at h; rw [x] at h; cases h
          · rw [e2'] at h; rw [y] at h; cases h
        · have := j.fr b o hb r'
          rw [h] at this; cases this
end
section
variable {K : PySem.W.Frag} {f : Fx} {s : Sx} {δ : List En} {ta tb te tl to : TE} {tt tu : TT} {P R : Sx → En → Prop} {t u : TS} {p : Po} {n c : Nat} {D : Addr} {es : List En} {w : List (Addr × List En)}
/-- for x in xs, a list that is changed elsewhere, not here; no return in it -/
theorem sd_forOwn {i0 j : Nat} (hi : δ[i0]? = some (.val (.ref D))) (hm : (D, es) ∈ w) (W : Nat → Nat → List En → Prop) (h0 : W 0 n δ)
    (hs : ∀ f' i x n' δ', f'.pu = f.pu → es[i]? = some x → W i n' δ' → SD K f' ⟨n', []⟩ t (δ'.set j x) ⟨fun s' δ2 => s'.own = [] ∧ W (i + 1) s'.n δ2, fun _ _ => False, fun _ _ => False, fun s' δ2 => s'.own = [] ∧ W (i + 1) s'.n δ2⟩)
    (hd : ∀ n' δ', W es.length n' δ' → p.nx ⟨n', w⟩ δ') : SD K f ⟨n, w⟩ (tFor (iList K (tVar i0)) (gName j) t) δ p := fun G H σ Dd a b cc => by
  obtain ⟨v, e0, o1⟩ := Slots.get a hi rfl
  cases (show v = V.ref D from o1)
  obtain ⟨g1, g2, g3, xs, hx, vv⟩ := b.own D es hm
  have np : ¬ isPu (⟨f.pu, H, G⟩ : Fx) D := fun z => g3 z
  refine ⟨_, e0, D, rfl, ⟨xs, sq_of hx⟩, for_list (xs := xs) (fun i σ' H' => ∃ n' δ' G', Ex G G' ∧ J K ⟨f.pu, H, G⟩ ⟨n', []⟩ G' H' ∧ Slots K G' σ' δ' ∧ W i n' δ') ⟨n, δ, G, Ex.refl G, b.enter, a, h0⟩ (fun i σ' H' _ hp => ?_) (fun i y σ' H' hy hp => ?_) (fun σ' H' hp => ?_)⟩
  · obtain ⟨n', δ', G', eg, jj, _⟩ := hp
    exact sq_of (jj.fr D _ np hx)
  · obtain ⟨n', δ', G', eg, jj, sl, hw⟩ := hp
    obtain ⟨x, hx', ox⟩ := Vs.getV vv hy
    refine hs ⟨f.pu, H, G⟩ i x n' δ' rfl hx' hw G' H' _ _ (Slots.set (SOk.of (ox.mono eg)) j sl) jj ⟨fun σ2 δ2 s2 G2 H2 e2 j2 sl2 q => ?_, fun _ _ _ _ _ _ _ _ z => z.elim, fun _ _ _ _ _ _ _ _ z => z.elim, fun σ2 δ2 s2 G2 H2 e2 j2 sl2 q => ?_⟩
    · obtain ⟨m, o⟩ := s2
      cases q.1
      exact ⟨m, δ2, G2, eg.trans e2, j2, sl2, q.2⟩
    · obtain ⟨m, o⟩ := s2
      cases q.1
      exact ⟨m, δ2, G2, eg.trans e2, j2, sl2, q.2⟩
  · obtain ⟨n', δ', G', eg, jj, sl, hw⟩ := hp
    rw [vv.len] at hw
    exact cc.nx σ' δ' _ G' H' eg (b.leave jj) sl (hd n' δ' hw)
/-- isinstance(xs, list) of such a list -/
theorem cd_isLstOwn (hm : (D, es) ∈ s.own) : CD K f (rIsi K) s [.val (.ref D), .val (.ty "list")] (Is s (.dat (.bool true))) := fun G H vs Q jj a k => by
  cases a with
  | cons h1 t =>
    cases t with
    | cons h2 t =>
      cases t
      cases (show _ = V.ref D from h1)
      cases (show _ = V.ty "list" from h2)
      obtain ⟨_, _, _, xs, hx, _⟩ := jj.own D es hm
      exact ⟨_, _, _, _, true, rfl, .ty "list", .base (.lst hx), kit_ty (by decide +kernel), fD k jj (.bl _)⟩
/-- x is not True -/
theorem od_isnotBl {a b : Bool} : OD K f (fun x y H Q => ∃ a b, x = .bl a ∧ y = .bl b ∧ Q (.bl (!decide (a = b))) H) s (.dat (.bool a)) (.dat (.bool b)) (Is s (.dat (.bool (!decide (a = b))))) := fun G H v u Q jj x y k => by
  cases x
  cases y
  exact ⟨a, b, rfl, rfl, fD k jj (.bl _)⟩
end
end Dl

namespace Dl
open PySem L2 Evl
section
variable {K : PySem.W.Frag} {f : Fx} {s : Sx} {δ : List En} {ta tb te tl to : TE} {tt tu : TT} {P R : Sx → En → Prop} {t u : TS} {p : Po} {n c : Nat} {D : Addr} {es : List En} {r w : List (Addr × List En)} {tab : List (List Int × Str)}
/-- a new list of a table's keys -/
def spKeys (K : PySem.W.Frag) (tab : List (List Int × Str)) : Sp := fun vs H Q _ => vs = [] ∧ ∀ p bs, H p = none → Paired (fun b (y : List Int × Str) => tupInK K b y.1 = true) bs tab → Q (.ref p) (upd H p (.lst (bs.map V.ref)))
theorem keys_dpa {G : Hp} {bs : List Addr} (h : Paired (fun b (y : List Int × Str) => tupInK K b y.1 = true) bs tab) : DpAll K G (bs.map V.ref) ((tab.map (·.1)).map tupD) := by
  induction h with
  | nil => exact .nil
  | cons a _ ih => exact .cons (dpT a G) ih
theorem sd_keysNew {i : Nat} {E : XK} (k : ∀ D, SD K f ⟨s.n, (D, ((tab.map (·.1)).map tupD).map .dat) :: s.own⟩ u (δ.set i (.val (.ref D))) p) : SD K f s (tSeq (tAsg (tCall (spKeys K tab) [] E tNil) (gName i)) u) δ p := fun G H σ Dd a b cc =>
  ⟨rfl, fun q bs hq hb => k q G _ _ Dd (Slots.set (SOk.of (show Ok K G (.ref q) (.val (.ref q)) from rfl)) i a) (b.ownNew hq (Vs.of_dpa (keys_dpa hb))) cc⟩
theorem ed_keys {E : XK} : ED K f s (tCall (spKeys K tab) [] E tNil) δ (Is s (.dat (.list ((tab.map (·.1)).map tupD)))) := fun G H σ Q a b c =>
  ⟨rfl, fun q bs hq hb => fL c b (keys_dpa hb) hq⟩
/-- xs[i] = e, the place drawn -/
theorem sd_setOwnN {i : Nat} {x : En} {P : Sx → En → Prop} (hi : δ[i]? = some (.val (.ref D))) (h : ED K f ⟨n, (D, es) :: r⟩ te δ (Is ⟨n, (D, es) :: r⟩ x)) (hj : ED K f ⟨n, (D, es) :: r⟩ tb δ P)
    (k : ∀ s' y, P s' y → ∃ m j, s' = ⟨m, (D, es) :: r⟩ ∧ y = .dat (.int ((j : Nat) : Int)) ∧ j < es.length ∧ p.nx ⟨m, (D, es.set j x) :: r⟩ δ) :
    SD K f ⟨n, (D, es) :: r⟩ (tAsg te (gSub (tVar i) tb rSetL)) δ p := fun G H σ Dd a b c =>
  h G H σ _ a b fun v y s1 G1 H1 e1 j1 o1 p1 => by
    obtain ⟨rfl, rfl⟩ := p1
    obtain ⟨w, e0, o0⟩ := Slots.get (Slots.mono e1 a) hi rfl
    cases (show w = V.ref D from o0)
    refine ⟨_, e0, hj G1 H1 σ _ (Slots.mono e1 a) j1 fun u z s2 G2 H2 e2 j2 o2 p2 => ?_⟩
    obtain ⟨m, j, rfl, rfl, hl, hk⟩ := k s2 z p2
    cases o2
    obtain ⟨_, _, _, xs, e, vv⟩ := j2.own D _ (List.mem_cons_self ..)
    exact ⟨D, xs, (j : Int), j, rfl, rfl, e, Evl.ixN_nat (by rw [vv.len]; exact hl), c.nx σ δ _ G2 _ (e1.trans e2) (j2.ownSet (Vs.setAt j vv (o1.mono e2))) (Slots.mono (e1.trans e2) a) hk⟩
theorem sd_clear {i : Nat} (hi : δ[i]? = some (.val (.ref D))) (k : p.nx ⟨n, (D, []) :: r⟩ δ) : SD K f ⟨n, (D, es) :: r⟩ (tDrop (tBM0 K "list" rClear (tVar i))) δ p := fun G H σ Dd a b c => by
  obtain ⟨v, e0, o1⟩ := Slots.get a hi rfl
  cases (show v = V.ref D from o1)
  obtain ⟨_, _, _, xs, e, vv⟩ := b.own D _ (List.mem_cons_self ..)
  exact ⟨_, e0, Or.inl ⟨rfl, xs, sq_of e⟩, D, xs, rfl, rfl, e, c.nx σ δ _ G _ (Ex.refl G) (b.ownSet (es' := []) .nil) a k⟩
/-- the list on top is forgotten -/
theorem sd_forget (h : SD K f ⟨n, r⟩ t δ p) : SD K f ⟨n, (D, es) :: r⟩ t δ p := fun G H σ Dd a b c => h G H σ Dd a b.ownDrop c
/-- .. behind a statement -/
theorem sd_forgetN (h : SD K f s t δ { p with nx := fun s' δ' => ∃ n D es r, s' = ⟨n, (D, es) :: r⟩ ∧ p.nx ⟨n, r⟩ δ' }) : SD K f s t δ p := fun G H σ Dd a b c => h G H σ Dd a b ⟨fun σ' δ' s' G2 H2 e2 j2 sl q => by
  obtain ⟨n, D, es, r, rfl, q⟩ := q
  exact c.nx σ' δ' _ G2 H2 e2 j2.ownDrop sl q, c.rt, c.bk, c.ct⟩
end
end Dl

namespace Dl
open PySem L2 Evl
/-! ### data of small depth: str of it -/
def okN : Nat → PyData → Bool
  | 0, _ => false
  | _ + 1, .none => true
  | _ + 1, .bool _ => true
  | _ + 1, .int i => decide (i.natAbs.log2 < 1920)
  | _ + 1, .str x => (decide (x.length ≤ 100) && x.cps.toList.all fun c => decide (c < 16 ^ 8)) && PyData.strOk x
  | k + 1, .list xs => decide (xs.length ≤ 20) && xs.all (okN k)
  | k + 1, .tuple xs => decide (xs.length ≤ 20) && xs.all (okN k)
  | _ + 1, .dict _ => false
def bN : Nat → Nat
  | 0 => 0
  | 1 => 2000
  | k + 1 => 3 + 20 * (bN k + 2)
theorem bN_pos : ∀ k, 2000 ≤ bN (k + 1)
  | 0 => Nat.le_refl _
  | k + 1 => by
    have := bN_pos k
    show 2000 ≤ 3 + 20 * (bN (k + 1) + 2)
    omega
theorem all_show : ∀ {xs : List PyData}, (∀ x ∈ xs, x.showable = true) → PyData.showableAll xs = true
  | [], _ => by simp [PyData.showableAll]
  | x :: xs, h => by
    simp only [PyData.showableAll, Bool.and_eq_true]
    exact ⟨h x (List.mem_cons_self ..), all_show fun y hy => h y (List.mem_cons_of_mem _ hy)⟩
theorem all_lay : ∀ {xs : List PyData}, (∀ x ∈ xs, x.canLay0 = true) → PyData.canLayAll0 xs = true
  | [], _ => by simp [PyData.canLayAll0]
  | x :: xs, h => by
    simp only [PyData.canLayAll0, Bool.and_eq_true]
    exact ⟨h x (List.mem_cons_self ..), all_lay fun y hy => h y (List.mem_cons_of_mem _ hy)⟩
theorem all_depth {k : Nat} : ∀ {xs : List PyData}, (∀ x ∈ xs, x.depth ≤ k) → PyData.depthAll xs ≤ k
  | [], _ => by simp [PyData.depthAll]
  | x :: xs, h => by
    have h1 := h x (List.mem_cons_self ..)
    have h2 := all_depth (xs := xs) fun y hy => h y (List.mem_cons_of_mem _ hy)
    simp only [PyData.depthAll]
    omega
theorem piled_le {b : Nat} : ∀ {xs : List PyData}, (∀ x ∈ xs, x.shown.length ≤ b) → piled (PyData.shownAll xs) ≤ xs.length * (b + 2)
  | [], _ => by simp [PyData.shownAll, piled]
  | x :: xs, h => by
    have h1 := h x (List.mem_cons_self ..)
    have h2 := piled_le (xs := xs) fun y hy => h y (List.mem_cons_of_mem _ hy)
    simp only [PyData.shownAll, piled_cons, List.length_cons, Nat.add_mul, Nat.one_mul] at h2 ⊢
    omega
theorem shownAll_len : ∀ xs : List PyData, (PyData.shownAll xs).length = xs.length
  | [] => by simp [PyData.shownAll]
  | x :: xs => by simp [PyData.shownAll, shownAll_len xs]
theorem join_le (ts : List Str) : (Str.join ", " ts).length ≤ piled ts := by
  cases ts with
  | nil => decide +kernel
  | cons x r =>
    have := join_length_add (x :: r) (by simp)
    omega
theorem okN_ok : ∀ (k : Nat) (d : PyData), okN k d = true → d.showable = true ∧ d.canLay0 = true ∧ d.depth ≤ k ∧ d.shown.length ≤ bN k
  | 0, _, h => by cases h
  | k + 1, .none, _ => ⟨by simp [PyData.showable], by simp [PyData.canLay0], by simp [PyData.depth], by
      have := bN_pos k
      have e : (PyData.shown .none).length = 4 := by simp only [PyData.shown]; decide +kernel
      omega⟩
  | k + 1, .bool b, _ => ⟨by simp [PyData.showable], by simp [PyData.canLay0], by simp [PyData.depth], by
      have := bN_pos k
      have e : (PyData.shown (.bool b)).length ≤ 5 := by cases b <;> (simp only [PyData.shown]; decide +kernel)
      omega⟩
  | k + 1, .int i, h => by
    have h' : i.natAbs.log2 < 1920 := of_decide_eq_true h
    refine ⟨by simpa [PyData.showable] using h', by simp [PyData.canLay0], by simp [PyData.depth], ?_⟩
    have := bN_pos k
    have e := PyProof.Rows.int_text_len_1921 h'
    have e2 : (PyData.shown (.int i)).length ≤ 1921 := by simp only [PyData.shown]; exact e
    omega
  | k + 1, .str x, h => by
    obtain ⟨h, h5⟩ := Bool.and_eq_true_iff.mp h
    obtain ⟨h1, h2⟩ := Bool.and_eq_true_iff.mp h
    refine ⟨by simp [PyData.showable], by simpa [PyData.canLay0] using h5, by simp [PyData.depth], ?_⟩
    have := bN_pos k
    have e := StrLaws.reprText_len x (fun c hc => of_decide_eq_true (List.all_eq_true.mp h2 c hc))
    have h3 := of_decide_eq_true h1
    have e2 : (PyData.shown (.str x)).length ≤ 10 * x.length + 2 := by simp only [PyData.shown]; exact e
    omega
  | k + 1, .list xs, h => by
    obtain ⟨h1, h2⟩ := Bool.and_eq_true_iff.mp (show (decide (xs.length ≤ 20) && xs.all (okN k)) = true from h)
    have h3 := of_decide_eq_true h1
    have ih := fun x hx => okN_ok k x (List.all_eq_true.mp h2 x hx)
    refine ⟨?_, ?_, ?_, ?_⟩
    · simp only [PyData.showable]; exact all_show fun x hx => (ih x hx).1
    · simp only [PyData.canLay0]; exact all_lay fun x hx => (ih x hx).2.1
    · have := all_depth (k := k) fun x hx => (ih x hx).2.2.1
      simp only [PyData.depth]; omega
    · have p := piled_le (b := bN k) fun x hx => (ih x hx).2.2.2
      have j := join_le (PyData.shownAll xs)
      simp only [PyData.shown]
      rw [listText_eq_join, strLen_append, strLen_append]
      have e1 : ((("[" : String) : Str)).length = 1 := rfl
      have e2 : ((("]" : String) : Str)).length = 1 := rfl
      rw [e1, e2]
      cases k with
      | zero =>
        cases xs with
        | nil =>
          have e0 : (Str.join ", " (PyData.shownAll [])).length = 0 := by simp only [PyData.shownAll]; decide +kernel
          show _ ≤ 2000
          rw [e0]
          omega
        | cons x r => have := (List.all_eq_true.mp h2 x (List.mem_cons_self ..)); cases this
      | succ k =>
        show _ ≤ 3 + 20 * (bN (k + 1) + 2)
        have q : xs.length * (bN (k + 1) + 2) ≤ 20 * (bN (k + 1) + 2) := Nat.mul_le_mul_right _ h3
        omega
  | k + 1, .tuple xs, h => by
    obtain ⟨h1, h2⟩ := Bool.and_eq_true_iff.mp (show (decide (xs.length ≤ 20) && xs.all (okN k)) = true from h)
    have h3 := of_decide_eq_true h1
    have ih := fun x hx => okN_ok k x (List.all_eq_true.mp h2 x hx)
    refine ⟨?_, ?_, ?_, ?_⟩
    · simp only [PyData.showable]; exact all_show fun x hx => (ih x hx).1
    · simp only [PyData.canLay0]; exact all_lay fun x hx => (ih x hx).2.1
    · have := all_depth (k := k) fun x hx => (ih x hx).2.2.1
      simp only [PyData.depth]; omega
    · have p := piled_le (b := bN k) fun x hx => (ih x hx).2.2.2
      have j := join_le (PyData.shownAll xs)
      simp only [PyData.shown]
      unfold tupleText
      rw [strLen_append, strLen_append]
      have e1 : ((("(" : String) : Str)).length = 1 := rfl
      have e2 : (((if (PyData.shownAll xs).length == 1 then ",)" else ")" : String) : Str)).length ≤ 2 := by split <;> decide
      rw [e1]
      cases k with
      | zero =>
        cases xs with
        | nil =>
          have e0 : (Str.join ", " (PyData.shownAll [])).length = 0 := by simp only [PyData.shownAll]; decide +kernel
          show _ ≤ 2000
          rw [e0]
          omega
        | cons x r => have := (List.all_eq_true.mp h2 x (List.mem_cons_self ..)); cases this
      | succ k =>
        show _ ≤ 3 + 20 * (bN (k + 1) + 2)
        have q : xs.length * (bN (k + 1) + 2) ≤ 20 * (bN (k + 1) + 2) := Nat.mul_le_mul_right _ h3
        omega
  | _ + 1, .dict _, h => by cases h
theorem okN_shaped {k : Nat} {d : PyData} (h : okN k d = true) (hk : k ≤ 64) : SeqAt.shaped d = true := by
  obtain ⟨_, h2, h3, _⟩ := okN_ok k d h
  unfold SeqAt.shaped
  rw [Bool.and_eq_true, decide_eq_true_eq]
  exact ⟨h2, by omega⟩
/-- str(x) of data -/
def strD : PyData → Str
  | .str x => x
  | d => d.shown
def rStrD (K : PySem.W.Frag) : List V → Hp → VK → Prop := fun xs H Q => ∃ x d, xs = [x] ∧ Dp K H x d ∧ okN 4 d = true ∧ Q (.str (strD d)) H
theorem call_strD {X : Cx} (hg : X.A.guards = some []) (hu : X.A.units + 64 < cLine) : CallR X (.type "str") (rStrD X.K) := by
  intro pins s σ H xs us Q I r h
  obtain ⟨x, d, rfl, hd, ok, q⟩ := h
  obtain ⟨h1, h2, h3, h4⟩ := okN_ok 4 d ok
  obtain ⟨u, rfl, ru⟩ := vals1 r
  obtain ⟨as, rd⟩ := Dp.reads I d x u hd ru
  have b4 : bN 4 ≤ sizeLine := by decide
  have deep : ∀ a, u = .ref a → strD d = d.shown → wpAny (model X.prog X.w) X.A (call (.type "str") [u]) (EP X pins σ Q) X.xe s := fun a ea es => by
    subst ea
    refine str_of_reads (h₀ := s.heap) rd h1 (PyData.noDict_hsm (PyData.hasDict_of_canLay d h2)) hg (by omega) (fun _ _ z => z) (fun h' t tk hk => ?_) (Nat.le_trans h4 b4)
    rw [es] at q
    exact ⟨.str d.shown, H, I.kept hk, ⟨t, rfl⟩, q⟩
  cases hd with
  | non => cases ru; exact PySem.P.str_of_none ⟨.str "None", H, I.tok _, ⟨_, rfl⟩, q⟩
  | bl b => cases ru; exact PySem.P.str_of_bool ⟨.str _, H, I.tok _, ⟨_, rfl⟩, q⟩
  | int i =>
    obtain ⟨t, rfl⟩ := ru
    exact PySem.P.str_of_int (of_decide_eq_true ok) ⟨.str _, H, I.tok _, ⟨_, rfl⟩, q⟩
  | str z =>
    obtain ⟨t, rfl⟩ := ru
    exact PySem.P.str_of_str ⟨.str z, H, I, ⟨_, rfl⟩, q⟩
  | lst _ _ => cases ru; exact deep _ rfl rfl
  | tup _ _ => cases ru; exact deep _ rfl rfl
theorem cd_strD {K : PySem.W.Frag} {f : Fx} {s : Sx} {d : PyData} (h : okN 4 d = true) : CD K f (rStrD K) s [.dat d] (Is s (.dat (.str (strD d)))) := fun G H vs Q jj a k => by
  cases a with
  | cons h1 t =>
    cases t
    exact ⟨_, d, rfl, dpMono jj.ex h1, h, fD k jj (.str _)⟩
end Dl

/-! A law's own def, called by the claim itself: nothing is being written out as text there (guards). -/
namespace Dl
open PySem PySem.Spec PyProof.Rows L2
structure FnAt (P : Program) (w : World) (K : PySem.W.Frag) (mg : Str → Option Value) (base : Heap) (f : Addr) (fd : FuncData) (x : Str) (sp : Sp) : Prop where
  run : ∀ (s : Shared) (H : Hp) (u : Value) (v : V) (Q : VK), Env0 P w K mg base callerA [] s H → BindsTo s fd ⟨[u], []⟩ [(x, u)] → RelV v u → sp [v] H Q (fun _ _ _ => False) →
    codeAny (model P w) callerA (.call (.ref f) ⟨[u], []⟩) (CR CX0 [] P w H s Q fun _ _ _ => False) s
/-- from the body, where guards are told -/
theorem fnAt_of {P : Program} {w : World} {K : PySem.W.Frag} {mg : Str → Option Value} {base : Heap} {k : Nat} {x0 qual : Str} {st : Stmt} {f : Addr} {fd : FuncData} {N : List Str} {x : Str} {sp : Sp} (F : Fun K x0 qual st f fd) (S : FnScope N [x] (defScope st)) (hr : Room (k + 1) callerA) (len : ∀ vs H Q E, sp vs H Q E → vs.length = 1)
    (hbody : ∀ (cdv : Value) (s : Shared) (H : Hp) (vs : List V) (Q : VK) (E : XK), Room k (callerA.deeper (envOfC qual (defScope st) s.heap.objs.size f cdv)) → sp vs H Q E →
      ∃ t, PSs (cxOf CX0 P w K mg base N qual (defScope st) f cdv callerA [] s H E).nox (defBody st) t ∧ t { nx := fun _ H' => Q .non H', rt := Q } (L2.start N vs) H) : FnAt P w K mg base f fd x sp := by
  obtain ⟨oc, od, kV, doc, pm, an, cdv, ct, osl, rfl, lk, hcd⟩ := F.ex
  refine ⟨fun s H u v Q e0 hb r hsp => ?_⟩
  have KX : K.In s.heap := e0.mod.kin.keeps fun b o e => (e0.bs b o e).1
  have hlm : s.heap.NoLimit := e0.mod.nolimit.keeps fun b o e => (e0.bs b o e).1
  have hkd : ∀ y ∈ [(x, u)], (defScope st).names.lookup y.1 = some .local ∨ ((defScope st).names.lookup y.1 = some .cell ∧ ((cellsFrom (s.heap.objs.size + 1) (defScope st).names []).lookup y.1).isSome = true) := fun ⟨n, z⟩ hy => by
    cases List.mem_singleton.mp hy
    rcases S.par x (List.mem_singleton.mpr rfl) with q | q
    · exact .inl q
    · exact .inr ⟨q, PySem.W.cellsFrom_some _ _ _ (.inl q)⟩
  refine codeAny_call_function hr.depth (KX _ _ lk) rfl S.co S.gen rfl (PySem.W.codeRec_of KX hcd) (hb _ _ _ _ ?_)
  refine wpAny_newFunctionEnv_cells S.kind hkd fun env he s1 ic => ?_
  subst he
  refine ⟨hlm.keeps ic.toInCall.keep, codeAny_func ?_⟩
  obtain ⟨t, ht0, hq⟩ := hbody cdv s H [v] Q (fun _ _ _ => False) (hr.deeper _) hsp
  have ht := ht0.nox
  have I0 : L2.Inv (cxOf CX0 P w K mg base N qual (defScope st) f cdv callerA [] s H fun _ _ _ => False) [] (L2.start N [v]) H s1 := inv_start S hr.hd e0 rfl (.cons r .nil) ic
  refine wpAny_mono (ht.run [] s1 (L2.start N [v]) H _ I0 hq) (fun fl s' hs => ?_) fun e s' hs => hs
  cases fl with
  | ret u =>
    obtain ⟨v', σ', H', J', rv, q⟩ := hs
    exact ⟨v', H', J'.os, J'.bare, J'.base, J'.hok, rv, q⟩
  | next =>
    obtain ⟨σ', H', J', q⟩ := hs
    exact ⟨V.non, H', J'.os, J'.bare, J'.base, J'.hok, rfl, q⟩
  | brk => obtain ⟨_, _, _, q⟩ := hs; exact q.elim
  | cont => obtain ⟨_, _, _, q⟩ := hs; exact q.elim
theorem law_at {P : Program} {w : World} {K : PySem.W.Frag} {mg mb : Str → Option Value} {fa a : Addr} {fd : FuncData} {x : Str} {sp : Sp} {s₁ : Shared} {vs : List Value} {ns : List Int}
    (KX : K.In s₁.heap) (hns : s₁.heap.Ns mainGlobals mg) (hb : s₁.heap.Ns builtinsNs mb) (hbb : ∀ x : Str, x ≠ "__name__" → mb x = bootBuiltins x) (hlim : s₁.heap.NoLimit) (hg : s₁.gens = #[])
    (ha : s₁.heap.get? a = some { cls := .type "list", data := .seq vs.toArray }) (hi : IntsAre vs ns) (hl : ns.length ≤ sizeLine)
    (F : ∀ base : Heap, K.In base → base.Ns mainGlobals mg → FnAt P w K mg base fa fd x sp) (hbind : ∀ (s : Shared) (u : Value), BindsTo s fd ⟨[u], []⟩ [(x, u)])
    (hsp : ∀ H : Hp, Only H → SqL K H a (ns.map V.int) → sp [.ref a] H (fun v _ => v = .bl true) fun _ _ _ => False) :
    codeAny (model P w) callerA (.call (.ref fa) ⟨[.ref a], []⟩) (fun r s' => r = .ok (.ret (.bool true)) ∧ OldK s₁.heap s'.heap ∧ s'.os = s₁.os ∧ AllBare s'.gens) s₁ := by
  have rv := vals_ints hi
  have lenV := hi.length
  have main : ∀ H : Hp, Only H → SqL K H a (ns.map V.int) → HOk P w H s₁.heap → (∀ b, H b ≠ none → b = a) → (H a ≠ none → K.lookup a = none) →
      codeAny (model P w) callerA (.call (.ref fa) ⟨[.ref a], []⟩) (fun r s' => r = .ok (.ret (.bool true)) ∧ OldK s₁.heap s'.heap ∧ s'.os = s₁.os ∧ AllBare s'.gens) s₁ := by
    intro H hO hS hok hA hK
    have noA : ∀ {b : Addr} {o : Obj} {es : Array DictEntry} {ep : Nat}, s₁.heap.get? b = some o → o.data = .dict es ep → H b = none := fun {b o es ep} e d => by
      cases q : H b with
      | none => rfl
      | some u =>
        cases hA b (by rw [q]; simp)
        rw [ha] at e; cases e
        exact nomatch (show Data.seq vs.toArray _ = Data.dict es ep from d)
    have nsK : ∀ {b : Addr} {m : Str → Option Value}, s₁.heap.Ns b m → (hidT s₁.heap H).Ns b m := fun {b m} ⟨o, es, ep, e, d, r⟩ => ⟨o, es, ep, hidT_get e (noA e d), d, r⟩
    have hKb : K.In (hidT s₁.heap H) := fun b o e => hidT_get (KX b o e) (by
      cases q : H b with
      | none => rfl
      | some u =>
        cases hA b (by rw [q]; simp)
        rw [hK (by rw [q]; simp)] at e; cases e)
    have hM : Mod K mg (hidT s₁.heap H) := ⟨hKb, nsK hns, ⟨mb, nsK hb, hbb⟩, let ⟨mc, h1, h2⟩ := hlim; ⟨mc, nsK h1, h2⟩⟩
    have e0 : Env0 P w K mg (hidT s₁.heap H) callerA [] s₁ H := ⟨rfl, hM, fun b o e => of_hidT e, Nat.le_of_eq (hidT_size _ _), trivial, fun b hb => absurd (show b ∈ ([] : List Addr) from hb) (by simp), hok, .of_eq hg⟩
    refine codeAny_mono ((F _ hKb (nsK hns)).run s₁ H (.ref a) (.ref a) _ e0 (hbind s₁ (.ref a)) rfl (hsp H hO hS)) fun r s' h => ?_
    cases r with
    | error e => exact h.elim
    | ok fl =>
      cases fl with
      | next => exact False.elim h
      | brk => exact False.elim h
      | cont => exact False.elim h
      | ret u =>
        obtain ⟨v, H', os, bare, un, hok', r', q⟩ := h
        cases (show v = .bl true from q)
        cases (show u = Value.bool true from r')
        refine ⟨rfl, OldK.of_keep fun b o e => ?_, os, bare⟩
        cases q : H b with
        | none => exact un.keep b o e q (by intro z; exact absurd (show b ∈ ([] : List Addr) from z) (by simp)) (by simp)
        | some u =>
          rcases hO b with z | ⟨ob, xs, z⟩
          · rw [q] at z; cases z
          · obtain ⟨e1, _⟩ := hok b _ z
            obtain ⟨e2, _⟩ := hok' b _ (un.frzs b ob _ z)
            rw [e] at e1; cases e1
            exact e2
  cases hk : K.lookup a with
  | some o =>
    have e := KX a o hk
    rw [ha] at e
    cases e
    exact main (fun _ => none) (fun _ => .inl rfl) (.inr ⟨_, vs.toArray, _, hk, rfl, rfl, rfl, by rw [List.size_toArray, lenV]; exact hl, by simpa using rv⟩) (fun b u z => nomatch (show (none : Option HO) = some u from z)) (fun b z => absurd rfl z) fun z => absurd rfl z
  | none =>
    refine main (fun b => if b = a then some (.frz { cls := .type "list", data := .seq vs.toArray } (.lst (ns.map V.int))) else none) (fun b => ?_) (.inl (.inr ⟨{ cls := .type "list", data := .seq vs.toArray }, if_pos rfl⟩)) (fun b u z => ?_) (fun b z => ?_) fun _ => hk
    · by_cases hb : b = a
      · exact .inr ⟨_, _, if_pos hb⟩
      · exact .inl (if_neg hb)
    · by_cases hb : b = a
      · cases (if_pos hb).symm.trans z
        subst hb
        exact ⟨ha, by rw [List.length_map]; exact hl, vs, _, rv, ha⟩
      · cases (if_neg hb).symm.trans z
    · by_cases hb : b = a
      · exact hb
      · exact absurd (if_neg hb) z
theorem walk_at {l : PySem.W.OpenLaw} {n : Nat} {q : Program} {loose : List Str} {XP : (Str → Option Value) → Heap → Prop} {YP : World → Heap → Prop} {d : DefRec} {K : Params → PySem.W.Frag} {sp : World → Sp} {x : Str}
    (hn : l.most = some n) (hn2 : n ≤ sizeLine) (hdf : d.params.defaults = []) (hY : ∀ (w : World) (h : Heap), YP w h → (K w.params).In h)
    (F : ∀ (w : World) (mg : Str → Option Value) (fa : Addr) (h : Heap), (K w.params).In h → h.Ns mainGlobals mg → mg d.name = some (.ref fa) →
      ∃ fd : FuncData, (∀ (s : Shared) (u : Value), BindsTo s fd ⟨[u], []⟩ [(x, u)]) ∧ ∀ base : Heap, (K w.params).In base → base.Ns mainGlobals mg → FnAt l.prog w (K w.params) mg base fa fd x (sp w))
    (hsp : ∀ (w : World) (H : Hp) (a : Addr) (ns : List Int), ns.length ≤ n → Only H → SqL (K w.params) H a (ns.map V.int) → sp w [.ref a] H (fun v _ => v = .bl true) fun _ _ _ => False) :
    PySem.W.WalkO q loose XP YP l.row.toRowW d [] (fun f vs => PySem.call f vs) := by
  refine Att.attach_call hn hdf fun w s₀ s₁ mg mb fa o pm cd doc a vs ns G Y ho hd hcd hmg hobj hints hlen hg => ?_
  have KX := hY w _ Y
  obtain ⟨fd, hb, hF⟩ := F w mg fa _ KX G.T.g hmg
  exact law_at KX G.T.g G.T.b G.T.builtins G.T.nolimit hg hobj hints (Nat.le_trans hlen hn2) hF hb fun H hO hS => hsp w H a ns hlen hO hS
end Dl

namespace Dl
open PySem L2 Evl
section
variable {K : PySem.W.Frag} {f : Fx} {s : Sx} {δ : List En} {ta tb te tl to : TE} {tt tu : TT} {P R : Sx → En → Prop} {t u : TS} {p : Po} {n c : Nat} {D : Addr} {es : List En} {r w : List (Addr × List En)}
/-! ### bounds of slices -/
def EO (K : PySem.W.Frag) (f : Fx) (s : Sx) (tl : TO) (δ : List En) (lo : Option Int) : Prop :=
  ∀ G H σ (Q : Option Int → Hp → Prop), Slots K G σ δ → J K f s G H → (∀ G2 H2, Ex G G2 → J K f s G2 H2 → Q lo H2) → tl σ H Q
theorem eo_none : EO K f s tNoPart δ none := fun G H σ Q _ j k => k G H (Ex.refl G) j
theorem eo_some {i : Int} (h : ED K f s te δ (Is s (.dat (.int i)))) : EO K f s (tPart te) δ (some i) := fun G H σ Q sl j k => h G H σ _ sl j fun v x s1 G1 H1 e1 j1 o1 p1 => by
  obtain ⟨rfl, rfl⟩ := p1
  cases o1
  exact ⟨i, rfl, k G1 H1 e1 j1⟩
theorem ed_slO {tl th : TO} {ds : List PyData} {lo hi : Option Int} (h : ED K f s te δ (Is s (.dat (.tuple ds)))) (h1 : EO K f s tl δ lo) (h2 : EO K f s th δ hi) : ED K f s (tSl (rSlF K) te tl th) δ (Is s (.dat (.tuple (cutD ds lo hi)))) := fun G H σ Q sl b k =>
  h G H σ _ sl b fun v x s1 G1 H1 e1 j1 o1 p1 => by
    obtain ⟨rfl, rfl⟩ := p1
    refine h1 G1 H1 σ _ (Slots.mono e1 sl) j1 fun G2 H2 e2 j2 => h2 G2 H2 σ _ (Slots.mono (e1.trans e2) sl) j2 fun G3 H3 e3 j3 => ?_
    have o3 : Dp K G3 v (.tuple ds) := dpMono (e2.trans e3) o1
    have e13 := (e1.trans e2).trans e3
    cases o3 with
    | tup sq al =>
      rename_i ad xs
      refine ⟨ad, xs, rfl, ex_t j3.ex sq, fun hw => ?_, fun hw q o ho hq => ?_⟩
      · have e : cutD ds lo hi = ds := by
          unfold cutD
          rw [dpa_len al] at hw
          rw [hw.1, hw.2, List.drop_zero, Nat.sub_zero, List.take_length]
        rw [e] at k
        exact k _ (.dat (.tuple ds)) _ G3 H3 e13 j3 (show Dp K _ _ _ from .tup sq al) ⟨rfl, rfl⟩
      · exact fT (fun w z s' G2 H2 e3 => k w z s' G2 H2 (e13.trans e3)) j3 (dpa_cut al lo hi) ho hq
theorem cutD_sub {ds : List PyData} {lo hi : Option Int} : (∀ d ∈ cutD ds lo hi, d ∈ ds) ∧ (cutD ds lo hi).length ≤ ds.length := by
  unfold cutD
  refine ⟨fun d hd => List.mem_of_mem_drop (List.mem_of_mem_take hd), ?_⟩
  rw [List.length_take, List.length_drop]
  omega
/-! ### displays with drawn things -/
theorem ed_tupN {ta : TA} {PA : Sx → List En → Prop} (h : EA K f s ta δ PA) (k : ∀ s' es, PA s' es → ∃ ds, dats es = some ds ∧ ds.length ≤ 100000 ∧ P s' (.dat (.tuple ds))) : ED K f s (tTupF ta) δ P := fun G H σ Q sl b c =>
  h G H σ _ sl b fun vs xs s1 G1 H1 e1 j1 o1 p1 => by
    obtain ⟨ds, e, hl, hp⟩ := k s1 xs p1
    rw [dats_eq e] at o1
    have o2 := Vs.dpa o1
    refine ⟨sz_of (by rw [dpa_len o2]; exact hl), fun q o ho hq => ?_⟩
    exact fT (fun w z s' G2 H2 e3 j3 o3 p3 => c w z s' G2 H2 (e1.trans e3) j3 o3 (by obtain ⟨rfl, rfl⟩ := p3; exact hp)) j1 o2 ho hq
theorem ed_lstN {ta : TA} {PA : Sx → List En → Prop} (h : EA K f s ta δ PA) (k : ∀ s' es, PA s' es → ∃ ds, dats es = some ds ∧ ds.length ≤ 100000 ∧ P s' (.dat (.list ds))) : ED K f s (tLst ta) δ P := fun G H σ Q sl b c =>
  h G H σ _ sl b fun vs xs s1 G1 H1 e1 j1 o1 p1 => by
    obtain ⟨ds, e, hl, hp⟩ := k s1 xs p1
    rw [dats_eq e] at o1
    have o2 := Vs.dpa o1
    refine ⟨sz_of (by rw [dpa_len o2]; exact hl), fun q hq => ?_⟩
    exact fL (fun w z s' G2 H2 e3 j3 o3 p3 => c w z s' G2 H2 (e1.trans e3) j3 o3 (by obtain ⟨rfl, rfl⟩ := p3; exact hp)) j1 o2 hq
/-- a, b = e, e2 -/
theorem sd_par {ta : TA} {i j : Nat} {PA : Sx → List En → Prop} (h : EA K f s ta δ PA) (k : ∀ s' es, PA s' es → ∃ x y, es = [x, y] ∧ SD K f s' u ((δ.set i x).set j y) p) : SD K f s (tSeq (tPar i j ta) u) δ p := fun G H σ Dd sl b c =>
  h G H σ _ sl b fun vs xs s1 G1 H1 e1 j1 o1 p1 => by
    obtain ⟨x, y, rfl, hs⟩ := k s1 xs p1
    cases o1 with
    | cons o1 o2 =>
      cases o2 with
      | cons o2 o3 =>
        cases o3
        exact ⟨_, _, rfl, hs G1 H1 _ Dd (Slots.set (SOk.of o2) j (Slots.set (SOk.of o1) i (Slots.mono e1 sl))) j1 (c.mono e1)⟩
/-- int(truth) -/
theorem cd_intB {b : Bool} : CD K f (fun xs H Q => (∃ i, xs = [.int i] ∧ Q (.int i) H) ∨ ∃ k, xs = [.bl k] ∧ Q (.int (if k then 1 else 0)) H) s [.dat (.bool b)] (Is s (.dat (.int (if b then 1 else 0)))) := fun G H vs Q jj a k => by
  cases a with
  | cons h t =>
    cases t
    cases h
    exact .inr ⟨b, rfl, fD k jj (.int _)⟩
theorem od_eqI {a b : Int} : OD K f rEq s (.dat (.int a)) (.dat (.int b)) (Is s (.dat (.bool (decide (V.int a = V.int b))))) := fun G H v u Q jj x y k => by
  cases x
  cases y
  exact ⟨rfl, fD k jj (.bl _)⟩
theorem od_neS {a b : Str} : OD K f rNe s (.dat (.str a)) (.dat (.str b)) (Is s (.dat (.bool (!decide (V.str a = V.str b))))) := fun G H v u Q jj x y k => by
  cases x
  cases y
  exact ⟨rfl, fD k jj (.bl _)⟩
end
section
variable {K : PySem.W.Frag} {f : Fx} {s : Sx} {δ : List En} {ta tb te tl to : TE} {tt tu : TT} {P R : Sx → En → Prop} {t u : TS} {p : Po} {n c : Nat} {D : Addr} {es : List En} {r w : List (Addr × List En)}
/-- xs[i], xs[j] = (e, e2) of the list on top -/
theorem sd_swapSet {ta : TA} {i0 : Nat} {i j : Nat} {tb tc : TE} {x y : PyData} (h : EA K f ⟨n, (D, es) :: r⟩ ta δ (Is ⟨n, (D, es) :: r⟩ [.dat x, .dat y])) (hi0 : δ[i0]? = some (.val (.ref D))) (h1 : ∀ es', ED K f ⟨n, (D, es') :: r⟩ tb δ (Is ⟨n, (D, es') :: r⟩ (.dat (.int (i : Int))))) (h2 : ∀ es', ED K f ⟨n, (D, es') :: r⟩ tc δ (Is ⟨n, (D, es') :: r⟩ (.dat (.int (j : Int)))))
    (hi : i < es.length) (hj : j < es.length) (k : SD K f ⟨n, (D, (es.set i (.dat x)).set j (.dat y)) :: r⟩ u δ p) : SD K f ⟨n, (D, es) :: r⟩ (tSeq (tAsg (tTupF ta) (gTup K 2 (gCons (gSub (tVar i0) tb rSetL) (gCons (gSub (tVar i0) tc rSetL) gNil)))) u) δ p := fun G H σ Dd sl b cc =>
  h G H σ _ sl b fun vs zs s1 G1 H1 e1 j1 o1 p1 => by
    obtain ⟨rfl, rfl⟩ := p1
    cases o1 with
    | cons d1 o2 =>
      cases o2 with
      | cons d2 o3 =>
        cases o3
        rename_i v1 v2
        refine ⟨sz_of (Nat.le_of_ble_eq_true rfl), fun ad ob hob had => ?_⟩
        replace j1 := j1.allocH had (.frz ob (.tup [v1, v2]))
        have sq : SqT K (upd H1 ad (.frz ob (.tup [v1, v2]))) ad [v1, v2] := st_frz upd_same
        generalize upd H1 ad (.frz ob (.tup [v1, v2])) = H1 at j1 sq ⊢
        refine ⟨ad, [v1, v2], rfl, sq, rfl, v1, [v2], rfl, ?_⟩
        obtain ⟨w0, e0, o0⟩ := Slots.get (Slots.mono e1 sl) hi0 rfl
        cases (show w0 = V.ref D from o0)
        refine ⟨_, e0, h1 es G1 H1 σ _ (Slots.mono e1 sl) j1 fun w1 z1 s2 G2 H2 e2 j2 o2 p2 => ?_⟩
        obtain ⟨rfl, rfl⟩ := p2
        cases o2
        obtain ⟨_, _, _, xs2, hx2, vv2⟩ := j2.own D _ (List.mem_cons_self ..)
        refine ⟨D, xs2, (i : Int), i, rfl, rfl, hx2, Evl.ixN_nat (by rw [vv2.len]; exact hi), ?_⟩
        have j3 := j2.ownSet (Vs.setAt i vv2 (show Ok K G2 v1 (.dat x) from dpMono e2 d1))
        refine ⟨v2, [], rfl, _, e0, h2 _ G2 _ σ _ (Slots.mono (e1.trans e2) sl) j3 fun w3 z3 s4 G4 H4 e4 j4 o4 p4 => ?_⟩
        obtain ⟨rfl, rfl⟩ := p4
        cases o4
        obtain ⟨_, _, _, xs4, hx4, vv4⟩ := j4.own D _ (List.mem_cons_self ..)
        refine ⟨D, xs4, (j : Int), j, rfl, rfl, hx4, Evl.ixN_nat (by rw [vv4.len, List.length_set]; exact hj), rfl, ?_⟩
        have e14 := (e1.trans e2).trans e4
        exact k G4 _ σ Dd (Slots.mono e14 sl) (j4.ownSet (Vs.setAt j vv4 (show Ok K G4 v2 (.dat y) from dpMono (e2.trans e4) d2))) (cc.mono e14)
end
theorem okN_int {k : Nat} {i : Int} (h : i.natAbs < 2 ^ 1900) : okN (k + 1) (.int i) = true := by
  refine decide_eq_true ?_
  exact Nat.lt_of_lt_of_le (PySem.Flt.log2_lt_of (k := 1900) (by decide) h) (by decide)
theorem okN_small {k : Nat} {i : Int} (h0 : 0 ≤ i) (h : i < 2 ^ 64) : okN (k + 1) (.int i) = true := okN_int (Nat.lt_of_lt_of_le (show i.natAbs < 2 ^ 64 by omega) (Nat.pow_le_pow_right (by decide) (by decide)))
theorem okN_tup {k : Nat} {ds : List PyData} (hl : ds.length ≤ 20) (h : ∀ d ∈ ds, okN k d = true) : okN (k + 1) (.tuple ds) = true := by
  show (decide (ds.length ≤ 20) && ds.all (okN k)) = true
  rw [Bool.and_eq_true]
  exact ⟨decide_eq_true hl, List.all_eq_true.mpr h⟩
theorem okN_lst {k : Nat} {ds : List PyData} (hl : ds.length ≤ 20) (h : ∀ d ∈ ds, okN k d = true) : okN (k + 1) (.list ds) = true := by
  show (decide (ds.length ≤ 20) && ds.all (okN k)) = true
  rw [Bool.and_eq_true]
  exact ⟨decide_eq_true hl, List.all_eq_true.mpr h⟩
theorem okN_mono : ∀ {k : Nat} {d : PyData}, okN k d = true → okN (k + 1) d = true
  | 0, _, h => by cases h
  | k + 1, .none, _ => rfl
  | k + 1, .bool _, _ => rfl
  | k + 1, .int _, h => h
  | k + 1, .str _, h => h
  | k + 1, .list xs, h => by
    obtain ⟨h1, h2⟩ := Bool.and_eq_true_iff.mp (show (decide (xs.length ≤ 20) && xs.all (okN k)) = true from h)
    exact okN_lst (of_decide_eq_true h1) fun d hd => okN_mono (List.all_eq_true.mp h2 d hd)
  | k + 1, .tuple xs, h => by
    obtain ⟨h1, h2⟩ := Bool.and_eq_true_iff.mp (show (decide (xs.length ≤ 20) && xs.all (okN k)) = true from h)
    exact okN_tup (of_decide_eq_true h1) fun d hd => okN_mono (List.all_eq_true.mp h2 d hd)
  | k + 1, .dict _, h => by cases h
end Dl

namespace Dl
open PySem L2 Evl
section
variable {K : PySem.W.Frag} {f : Fx} {s : Sx} {δ : List En} {ta tb te tl to : TE} {tt tu : TT} {P R : Sx → En → Prop} {t u : TS} {p : Po} {n c : Nat} {D : Addr} {es fs : List En} {r w : List (Addr × List En)}
/-! ### an expression that gives a new list of our own -/
def OL (K : PySem.W.Frag) (f : Fx) (s : Sx) (te : TE) (δ : List En) (es : List En) : Prop :=
  ∀ G H σ (Q : VK), Slots K G σ δ → J K f s G H → (∀ q G2 H2, Ex G G2 → J K f ⟨s.n, (q, es) :: s.own⟩ G2 H2 → Q (.ref q) H2) → te σ H Q
theorem ol_is (h : OL K f s te δ es) (e : es = fs) : OL K f s te δ fs := e ▸ h
theorem ol_lst {ta : TA} (h : EA K f s ta δ (Is s es)) (hl : es.length ≤ 100000) : OL K f s (tLst ta) δ es := fun G H σ Q sl j k =>
  h G H σ _ sl j fun vs xs s1 G1 H1 e1 j1 o1 p1 => by
    obtain ⟨rfl, rfl⟩ := p1
    exact ⟨sz_of (by rw [o1.len]; exact hl), fun q hq => k q G1 _ e1 (j1.ownNew hq o1)⟩
theorem sd_ol {i : Nat} (h : OL K f s te δ es) (k : ∀ D, SD K f ⟨s.n, (D, es) :: s.own⟩ u (δ.set i (.val (.ref D))) p) : SD K f s (tSeq (tAsg te (gName i)) u) δ p := fun G H σ Dd a b c =>
  h G H σ _ a b fun q G2 H2 e2 j2 => k q G2 H2 _ Dd (Slots.set (SOk.of (show Ok K G2 (.ref q) (.val (.ref q)) from rfl)) i (Slots.mono e2 a)) j2 (c.mono e2)
/-- .. in the place of the list on top, which is forgotten -/
theorem sd_olTop {i : Nat} (h : OL K f ⟨n, (D, fs) :: r⟩ te δ es) (k : ∀ D', SD K f ⟨n, (D', es) :: r⟩ u (δ.set i (.val (.ref D'))) p) : SD K f ⟨n, (D, fs) :: r⟩ (tSeq (tAsg te (gName i)) u) δ p :=
  sd_ol h fun D' => sd_swap (sd_forget (k D'))
theorem ed_ol {ds : List PyData} (h : OL K f s te δ (ds.map .dat)) : ED K f s te δ (Is s (.dat (.list ds))) := fun G H σ Q a b c =>
  h G H σ _ a b fun q G2 H2 e2 j2 => by
    obtain ⟨xs, j3, vv, hg, hx⟩ := j2.ownEnd
    have e3 : Ex G2 (upd G2 q (.lst xs)) := Ex.new hg
    exact c _ (.dat (.list ds)) _ _ H2 (e2.trans e3) j3 (show Dp K _ _ _ from .lst (sq_of upd_same) (dpaMono e3 (Vs.dpa vv))) ⟨rfl, rfl⟩
/-- xs + e, xs a list that is changed -/
theorem ol_cat {i : Nat} (hi : δ[i]? = some (.val (.ref D))) (hm : (D, es) ∈ s.own) (h : OL K f s tb δ fs) (hl : es.length + fs.length ≤ 100000) : OL K f s (tOp rCat (tVar i) tb) δ (es ++ fs) := fun G H σ Q sl j k => by
  obtain ⟨v, e0, o1⟩ := Slots.get sl hi rfl
  cases (show v = V.ref D from o1)
  refine ⟨_, e0, h G H σ _ sl j fun q G2 H2 e2 j2 => ?_⟩
  obtain ⟨_, _, _, xs, hx, vx⟩ := j2.own D es (List.mem_cons_of_mem _ hm)
  obtain ⟨_, _, _, ys, hy, vy⟩ := j2.own q fs (List.mem_cons_self ..)
  refine ⟨D, q, xs, ys, rfl, rfl, hx, hy, sz_of (by rw [vx.len, vy.len]; exact hl), fun a ha => ?_⟩
  exact k a G2 _ e2 (j2.ownDrop.ownNew ha (Vs.cat vx vy))
/-- [..] * k -/
theorem ol_rep {k : Nat} (h : OL K f s ta δ es) (hk : ∀ q, ED K f ⟨s.n, (q, es) :: s.own⟩ tb δ (Is ⟨s.n, (q, es) :: s.own⟩ (.dat (.int (k : Int))))) (h1 : k ≤ 100000) (hl : es.length * k ≤ 100000) : OL K f s (tOp rRep ta tb) δ (List.replicate k es).flatten := fun G H σ Q sl j c =>
  h G H σ _ sl j fun q G2 H2 e2 j2 => hk q G2 H2 σ _ (Slots.mono e2 sl) j2 fun v x s3 G3 H3 e3 j3 o3 p3 => by
    obtain ⟨rfl, rfl⟩ := p3
    cases o3
    obtain ⟨_, _, _, xs, hx, vx⟩ := j3.own q es (List.mem_cons_self ..)
    refine ⟨q, (k : Int), xs, rfl, rfl, hx, by omega, by omega, ?_, fun a ha => ?_⟩
    · rw [Int.toNat_natCast, vx.len]
      exact sz_of hl
    · have all : ∀ m : Nat, Vs K G3 (List.replicate m xs).flatten (List.replicate m es).flatten := by
        intro m
        induction m with
        | zero => exact .nil
        | succ m ih =>
          rw [List.replicate_succ, List.replicate_succ, List.flatten_cons, List.flatten_cons]
          exact Vs.cat vx ih
      rw [Int.toNat_natCast]
      exact c a G3 _ (e2.trans e3) (j3.ownDrop.ownNew ha (all k))
/-- "..".split("..") -/
def rSplitS : V → List V → Hp → VK → Prop := fun x xs H Q => ∃ a b, x = .str a ∧ xs = [.str b] ∧ (b.length == 0) = false ∧ a.length + 2 ≤ sizeLine ∧ rNewStrs (Txt.split a b) H Q
theorem mt_splitS {X : Cx} : MtR X "str.split" rSplitS := mt_split
theorem vs_strs {G : Hp} : ∀ ys : List Str, Vs K G (ys.map V.str) (ys.map fun y => .dat (.str y))
  | [] => .nil
  | y :: ys => .cons (show Dp K G (.str y) (.str y) from .str y) (vs_strs ys)
theorem ol_split {a b : Str} {ys : List Str} (hy : Txt.split a b = ys) (hb : (b.length == 0) = false) (ha : a.length + 2 ≤ 100000) : OL K f s (tBM K "str" rSplitS (tC (.str a)) (tCons (tC (.str b)) tNil)) δ (ys.map fun y => .dat (.str y)) := fun G H σ Q sl j k =>
  ⟨rfl, a, b, rfl, rfl, hb, sz_of ha, fun q hq => by rw [hy]; exact k q G _ (Ex.refl G) (j.ownNew hq (vs_strs ys))⟩
/-- the list on top is changed no more: its name holds data -/
theorem slots_set_get {G : Hp} {x : En} {v : V} : ∀ {σ : St} {δ : List En} {i : Nat}, Slots K G σ δ → σ[i]? = some (some v) → Ok K G v x → Slots K G σ (δ.set i x)
  | _, _, _, .nil, _, _ => .nil
  | _, _, 0, .cons _ t, e, o => by
    simp only [List.getElem?_cons_zero, Option.some.injEq] at e
    subst e
    exact .cons (SOk.of o) t
  | _, _, i + 1, .cons a t, e, o => .cons a (slots_set_get t (by simpa using e) o)
theorem sd_ownData {i : Nat} {ds : List PyData} (hi : δ[i]? = some (.val (.ref D))) (h : SD K f ⟨n, r⟩ t (δ.set i (.dat (.list ds))) p) : SD K f ⟨n, (D, ds.map .dat) :: r⟩ t δ p := fun G H σ Dd sl j c => by
  obtain ⟨v, e0, o1⟩ := Slots.get sl hi rfl
  cases (show v = V.ref D from o1)
  obtain ⟨xs, j2, vv, hg, hx⟩ := j.ownEnd
  have e2 : Ex G (upd G D (.lst xs)) := Ex.new hg
  exact h _ H σ Dd (slots_set_get (Slots.mono e2 sl) e0 (show Dp K _ _ _ from .lst (sq_of upd_same) (dpaMono e2 (Vs.dpa vv)))) j2 (c.mono e2)
/-! ### [e for a, b in zip(xs, ys) if t] -/
def prD : PyData × PyData → PyData := fun x => .tuple [x.1, x.2]
theorem zipL_get {ds ds2 : List PyData} {i : Nat} {d d2 : PyData} (h : ds[i]? = some d) (h2 : ds2[i]? = some d2) : (ds.zip ds2)[i]? = some (d, d2) := by
  rw [List.getElem?_zip_eq_some]
  exact ⟨h, h2⟩
def zE (ft : PyData × PyData → Bool) (g : PyData × PyData → PyData) (ds : List (PyData × PyData)) : List En := ((ds.filter ft).map g).map .dat
theorem zE_yes {ft : PyData × PyData → Bool} {g : PyData × PyData → PyData} {ds : List (PyData × PyData)} {i : Nat} {d : PyData × PyData} (e : ds[i]? = some d) (h : ft d = true) : zE ft g (ds.take (i + 1)) = zE ft g (ds.take i) ++ [.dat (g d)] := by
  unfold zE
  rw [List.take_add_one, e]
  simp [h]
theorem zE_no {ft : PyData × PyData → Bool} {g : PyData × PyData → PyData} {ds : List (PyData × PyData)} {i : Nat} {d : PyData × PyData} (e : ds[i]? = some d) (h : ft d = false) : zE ft g (ds.take (i + 1)) = zE ft g (ds.take i) := by
  unfold zE
  rw [List.take_add_one, e]
  simp [h]
theorem zE_len (ft : PyData × PyData → Bool) (g : PyData × PyData → PyData) (ds : List (PyData × PyData)) : (zE ft g ds).length ≤ ds.length := by
  unfold zE
  rw [List.length_map, List.length_map]
  exact List.length_filter_le _ _
theorem wipe2 {σ : St} {i j : Nat} {x y : Option V} (h : i ≠ j) : wipe (((wipe σ [i, j]).set i x).set j y) [i, j] = wipe σ [i, j] := by
  show ((((((σ.set j none).set i none).set i x).set j y).set j none).set i none) = (σ.set j none).set i none
  rw [List.set_set, List.set_set, List.set_comm _ _ h, List.set_set, List.set_comm _ _ h.symm]
  first
    | rfl
    | rw [List.set_comm _ _ h.symm, List.set_set, List.set_set]
    | simp [List.set_set, List.set_comm _ _ h]
theorem ol_lcZ {ta : TA} {i1 i2 : Nat} {ds ds2 : List PyData} (ft : PyData × PyData → Bool) (g : PyData × PyData → PyData) (h : EA K f s ta δ (Is s [.dat (.list ds), .dat (.list ds2)])) (hn : i1 ≠ i2) (hl : ds.length = ds2.length) (hl2 : ds.length ≤ 90000)
    (ht : ∀ d d2, (d, d2) ∈ ds.zip ds2 → ∀ s', ET K f s' tt (((wipeE δ [i1, i2]).set i1 (.dat d)).set i2 (.dat d2)) (Is s' (ft (d, d2)))) (he : ∀ d d2, (d, d2) ∈ ds.zip ds2 → ft (d, d2) = true → ∀ s', ED K f s' te (((wipeE δ [i1, i2]).set i1 (.dat d)).set i2 (.dat d2)) (Is s' (.dat (g (d, d2))))) :
    OL K f s (tLc (RZ.iZipA K ta) (gTup K 2 (gCons (gName i1) (gCons (gName i2) gNil))) tt te [i1, i2]) δ (((((ds.zip ds2).filter ft).map g)).map .dat) := fun G H σ Q sl j k =>
  h G H σ _ sl j fun vs xs s1 G1 H1 e1 j1 o1 p1 => by
    obtain ⟨rfl, rfl⟩ := p1
    cases o1 with
    | cons o1 o2 =>
      cases o2 with
      | cons o2 o3 =>
        cases o3
        cases o1 with
        | lst sq al =>
          cases o2 with
          | lst sq2 al2 =>
            rename_i ad xs ad2 ys
            have hxy : xs.length = ys.length := by rw [dpa_len al, dpa_len al2]; exact hl
            refine ⟨ad, ad2, xs, ys, rfl, .inl ⟨ex_l j1.ex sq, ex_l j1.ex sq2, fun Dq hD => ⟨fun i m H' => m = xs.length - i ∧ i ≤ xs.length ∧ lcAt K f s1 G1 Dq (zE ft g ((ds.zip ds2).take i)) H', ⟨xs.length, rfl, Nat.zero_le _, G1, Ex.refl G1, j1.ownNew hD .nil⟩, ?_⟩⟩⟩
            rintro i m H' ⟨rfl, hi, G', eg, jj⟩
            have q1 := ex_l jj.ex (ex_l eg sq)
            have q2 := ex_l jj.ex (ex_l eg sq2)
            have hzl : (ds.zip ds2).length = xs.length := by rw [List.length_zip, ← hl, dpa_len al]; omega
            by_cases hlt : i < xs.length
            · have hx : xs[i]? = some xs[i] := List.getElem?_eq_getElem hlt
              have hlt2 : i < ys.length := by omega
              have hy : ys[i]? = some ys[i] := List.getElem?_eq_getElem hlt2
              refine .inr ⟨⟨xs, ys, _, _, q1, q2, hx, hy⟩, fun H2 => lcAt K f s1 G1 Dq (zE ft g ((ds.zip ds2).take (i + 1))) H2, fun H2 p2 => ⟨xs.length - (i + 1), by omega, rfl, hlt, p2⟩, fun v H2 yl => ?_⟩
              obtain ⟨T, x', y', rfl, hT, rfl, f1, f2⟩ := yl
              obtain ⟨d, hd, od⟩ := dpa_getV al (f1 xs q1)
              obtain ⟨d2, hd2, od2⟩ := dpa_getV al2 (f2 ys q2)
              have hz := zipL_get hd hd2
              have hmem := List.mem_of_getElem? hz
              have j3 := jj.allocH hT (.tup [x', y'])
              refine ⟨T, [x', y'], rfl, st_of upd_same, rfl, x', [y'], rfl, y', [], rfl, rfl, wipe2 hn, ?_⟩
              have sl2 : ∀ G'', Ex G1 G'' → Slots K G'' (((wipe σ [i1, i2]).set i1 (some x')).set i2 (some y')) (((wipeE δ [i1, i2]).set i1 (.dat d)).set i2 (.dat d2)) := fun G'' e'' =>
                Slots.set (SOk.of (show Ok K G'' y' (.dat d2) from dpMono e'' od2)) i2 (Slots.set (SOk.of (show Ok K G'' x' (.dat d) from dpMono e'' od)) i1 (Slots.wipe (Slots.mono (e1.trans e'') sl) [i1, i2]))
              refine ht d d2 hmem _ G' _ _ _ (sl2 G' eg) j3 fun b s4 G4 H4 e4 j4 q => ?_
              obtain ⟨rfl, rfl⟩ := q
              cases hf : ft (d, d2) with
              | true =>
                refine iteT (he d d2 hmem hf _ G4 H4 _ _ (sl2 G4 (eg.trans e4)) j4 fun y x s5 G5 H5 e5 j5 o5 q5 => ?_)
                obtain ⟨rfl, rfl⟩ := q5
                obtain ⟨a1, a2, a3, acc, a4, a5⟩ := j5.own Dq _ (List.mem_cons_self ..)
                refine ⟨acc, a4, sz_lt ?_, G5, (eg.trans e4).trans e5, ?_⟩
                · rw [a5.len]
                  have := zE_len ft g ((ds.zip ds2).take i)
                  rw [List.length_take] at this
                  have := dpa_len al
                  omega
                · rw [zE_yes hz hf]
                  exact j5.ownSet (Vs.app a5 o5)
              | false =>
                refine iteF ⟨G4, eg.trans e4, ?_⟩
                rw [zE_no hz hf]
                exact j4
            · have e : i = xs.length := by omega
              subst e
              refine .inl ⟨⟨xs, ys, q1, q2, Or.inl (Nat.le_refl _)⟩, ?_⟩
              rw [List.take_of_length_le (by omega)] at jj
              exact k Dq G' H' (e1.trans eg) jj
theorem sd_lcZ {ta : TA} {i1 i2 i : Nat} {es : List En} (h : OL K f s (tLc (RZ.iZipA K ta) (gTup K 2 (gCons (gName i1) (gCons (gName i2) gNil))) tt te [i1, i2]) δ es) (k : ∀ D, SD K f ⟨s.n, (D, es) :: s.own⟩ u (δ.set i (.val (.ref D))) p) : SD K f s (tSeq (tAsg (tLc (RZ.iZipA K ta) (gTup K 2 (gCons (gName i1) (gCons (gName i2) gNil))) tt te [i1, i2]) (gName i)) u) δ p := sd_ol h k
/-- x is None -/
theorem od_isNd {d : PyData} (hd : d = .none) : OD K f (fun x y H Q => y = .non ∧ Q (.bl (decide (x = .non))) H) s (.dat d) (.dat .none) (Is s (.dat (.bool true))) := fun G H v u Q jj x y k => by
  subst hd
  cases x
  cases y
  exact ⟨rfl, fD k jj (.bl _)⟩
theorem od_isNth {k : List Int} {φ : Hp → V → Prop} (h : ∀ G v, φ G v → v ≠ .non) : OD K f (fun x y H Q => y = .non ∧ Q (.bl (decide (x = .non))) H) s (.th k φ) (.dat .none) (Is s (.dat (.bool false))) := fun G H v u Q jj x y k => by
  obtain ⟨G0, e0, q⟩ := x
  cases y
  refine ⟨rfl, ?_⟩
  rw [decide_eq_false (h G0 v q)]
  exact fD k jj (.bl _)
end
end Dl

namespace Dl
open PySem L2 Evl
/-! ### a caught exception, kept -/
/-- an exception of the class cls that was caught -/
def ExD (cls : Value) (dd : Option Addr) (a : Addr) : HO := .ext fun h => ∃ (oe : Obj) (vs : Array Value), h.get? a = some oe ∧ Zc cls dd oe ∧ oe.data = .fields vs
abbrev ExK (cls : Value) (a : Addr) : HO := ExD cls none a
/-- the clause's wish: an exception of the class c comes, its name is dropped, its object is kept at slot j -/
def wKeep (K : PySem.W.Frag) (c : Value) (i j : Nat) (D : Ends) : WX := fun cls d σ H => PySem.W.exmOne K cls c = some true ∧
  ∀ a, H a = none → D.nx (((σ.set i (some (.ref a))).set j (some (.ref a))).set i none) (upd H a (ExD cls d a))
def tTry (K : PySem.W.Frag) (c : Value) (i j : Nat) (tb : WX → TS) : TS := fun D σ H => tb (wKeep K c i j D) D σ H
/-- tracked from here on: it wasn't there at the entry -/
theorem Inv_track {X : Cx} {pins : List (Addr × Obj)} {σ : St} {H : Hp} {s : Shared} {a : Addr} {oe : Obj} {vs : Array Value} {cls : Value} {dd : Option Addr} (I : Inv X ((a, oe) :: pins) σ H s) (z : Zc cls dd oe) (d : oe.data = .fields vs) (h0 : X.s_0.heap.get? a = none) (hp : ∀ q ∈ X.pn ++ pins, q.1 ≠ a) : Inv X pins σ (upd H a (ExD cls dd a)) s := by
  obtain ⟨g1, g2, g3, g4, g5⟩ := I.pin (a, oe) (List.mem_append_right _ (List.mem_cons_self ..))
  have nk : ∀ b, b ≠ a → upd H a (ExD cls dd a) b = H b := fun b hb => upd_ne hb
  have na : ∀ {b : Addr} {o : HO}, H b = some o → b ≠ a := fun {b o} e => ne_of_none e g2
  have loc : X.env.locals ≠ a := fun q => g3 q.symm
  have cne : ∀ x c, X.env.cells.lookup x = some c → c ≠ a := fun x c e q => by
    obtain ⟨v, o, ho, hd⟩ := I.cell x c e
    rw [q] at ho
    rw [g1] at ho
    cases ho
    exact g5 _ hd
  have st : ∀ b o, X.s_0.heap.get? b = some o → b ≠ a := fun b o e q => by
    rw [q, h0] at e
    cases e
  have b0 := I.base
  refine ⟨I.ok, I.os, I.bare, ⟨b0.keep, b0.slot, fun b o e n x => ?_, b0.there, fun b xs e => ?_, fun b o xs e => ?_, fun b ps e => ?_⟩, I.loc, I.cell, ?_, fun x c e => ?_, fun q hq => ?_, fun b o e => ?_, I.len⟩
  · rw [nk b (st b o e)]
    exact b0.free b o e n x
  · have q := b0.tups b xs e
    rw [nk b (na q)]
    exact q
  · have q := b0.frzs b o xs e
    rw [nk b (na q)]
    exact q
  · obtain ⟨m, q⟩ := b0.tbls b ps e
    exact ⟨m, by rw [nk b (na q)]; exact q⟩
  · rw [nk _ loc]
    exact I.free
  · rw [nk _ (cne x c e)]
    exact I.freeC x c e
  · have hq' : q ∈ X.pn ++ (a, oe) :: pins := by
      rcases List.mem_append.mp hq with m | m
      · exact List.mem_append_left _ m
      · exact List.mem_append_right _ (List.mem_cons_of_mem _ m)
    obtain ⟨k1, k2, k3, k4, k5⟩ := I.pin q hq'
    exact ⟨k1, by rw [nk _ (hp q hq)]; exact k2, k3, k4, k5⟩
  · by_cases hb : b = a
    · subst hb
      rw [upd_same] at e
      cases e
      exact ⟨⟨oe, vs, g1, z, d⟩, ⟨oe, g1⟩, fun h1 h2 ⟨o, v, q, r⟩ k => ⟨o, v, k o q, r⟩⟩
    · rw [nk b hb] at e
      refine (I.hok b o e).stay (fun c u _ q => q) (fun c q => ?_) fun c xs q => ?_
      · rw [nk c (na q)]; exact q
      · rw [nk c (na q)]; exact q
section
variable {X : Cx} {x n y : Str} {c : Value} {i j : Nat} {body : List Stmt} {np pos pos' q1 q2 q3 : Pos} {tb : WX → TS}
/-- try: body, except x as n: y = n -/
theorem ps_try_keep (stk : X.stack = X.env :: X.outer) (fram : X.env.frame = some X.env.locals) (xex : X.ex = []) (nod : X.N.Nodup) (ni : X.N[i]? = some n) (kn : X.env.kindOf n = some .local) (nm : Names X x c) (ps1 : ∀ (a : Addr) (oe : Obj) (pn : List (Addr × Obj)), PSs (X.suite a ((a, oe) :: pn)) [.Assign [.Name y q1] (.Name n q2) q3] (tAsg (tVar i) (gName j)))
    (inner : ∀ (W : WX) (pn : List (Addr × Obj)) (xe : Value → Shared → Prop), Takes (X.tr pn xe) W → PassesOwn (model X.prog X.w) X.A X.env xe → PSs (X.tr pn xe) body (tb W)) :
    PS X (.Try body [.ExceptHandler (some (.Name x np)) (some n) [.Assign [.Name y q1] (.Name n q2) q3] pos'] [] [] pos) (tTry X.K c i j tb) := by
  refine ⟨fun pins s σ H D I h => ?_⟩
  unfold tTry at h
  have good := I.ok
  have frm : X.A.frames = some (X.env :: X.outer) := by rw [good.frames, stk]
  refine wpAny_Try_except ?_
  let xe : Value → Shared → Prop := fun e s₁ => wpAny (model X.prog X.w) X.A (noteFrame e X.env) (fun _ s₂ => wpAny (model X.prog X.w) X.A (setFlight e none) (fun _ s₃ => wpAny (model X.prog X.w) X.A (handleBy e X.env
    [.ExceptHandler (some (.Name x np)) (some n) [.Assign [.Name y q1] (.Name n q2) q3] pos']) (SP X pins D) X.xe s₃) X.xe s₂) X.xe s₁
  have tak : Takes (X.tr (X.pn ++ pins) xe) (wKeep X.K c i j D) := by
    intro u s1 air
    obtain ⟨a, B, sI, pins2, τ, H1, cls, d, rfl, Jt, ground, upto, sky, Ha, osq, bare, hm, go⟩ := air
    have J0 : Inv X pins τ H1 sI := Jt.ofTry good
    rw [show (X.tr (X.pn ++ pins) xe).stack = X.env :: X.outer from stk] at sky
    show wpAny (model X.prog X.w) X.A (noteFrame (.ref a) X.env) _ _ _
    refine Sky.land Zc.steady frm fram sky fun h3 fly up3 => ?_
    have J3 : Inv X pins τ H1 { s1 with heap := h3 } := J0.landed ground fly.1 (upto.trans up3) osq bare
    obtain ⟨oe3, vs3, at3, z3, d3⟩ := fly.there
    have out : a ∉ frs (X.env :: X.outer) := fun mem => by
      obtain ⟨_, o', at', no'⟩ := fly.2.2.1.mem mem
      rw [at3] at at'
      cases at'
      exact no' _ d3
    have outS : a ∉ frs X.stack := by rw [stk]; exact out
    have Ba : B.get? a = none := fly.2.1
    have nloc : a ≠ X.env.locals := fun q => out (List.mem_filterMap.mpr ⟨X.env, List.mem_cons_self, by rw [fram, q]⟩)
    have nfs : a ∉ X.fs := fun mem => by
      obtain ⟨en, he, q⟩ := List.mem_filterMap.mp mem
      exact out (List.mem_filterMap.mpr ⟨en, List.mem_cons_of_mem _ he, q⟩)
    have gone : sI.heap.get? a = none := by
      cases q : sI.heap.get? a with
      | none => rfl
      | some o =>
        have := ground a o q outS
        rw [Ba] at this
        cases this
    have gone0 : X.s_0.heap.get? a = none := by
      cases q : X.s_0.heap.get? a with
      | none => rfl
      | some o =>
        obtain ⟨o', q'⟩ := J0.base.there a o q (by rw [xex]; simp)
        rw [gone] at q'
        cases q'
    have pinOff : ∀ q ∈ X.pn ++ pins, q.1 ≠ a := fun q hq e => by
      have := (J0.pin q hq).1
      rw [e, gone] at this
      cases this
    have inSuite := J3.suite at3 d3 Ha nloc nfs
    refine wpAny_handleBy_cons (codeAny_handlers_test ?_) (by intro q; cases q)
    have ty3 : PySem.W.Looks (model X.prog X.w) h3 (typeOf (.ref a)) cls := fun A Q E s k q => wpAny_typeOf_ref (k _ _ at3) (by rw [z3.1]; exact q)
    have hit := PySem.W.exm_one (M := model X.prog X.w) (J3.kIn) ty3 hm
    have named : ∀ {Q : Value → Shared → Prop} {E : Value → Shared → Prop}, Q c { s1 with heap := h3 } → wpAny (model X.prog X.w) (X.A.mark (some (.ref a))) (eval (.Name x np) X.env) Q E { s1 with heap := h3 } := by
      intro Q E q
      obtain ⟨hg, hdbg, hw | ⟨hw, hv, hnn⟩⟩ := nm
      · exact ld_glob (X := X.suite a ((a, oe3) :: (X.pn ++ pins))) inSuite hg hw q hdbg
      · exact ld_blt (X := X.suite a ((a, oe3) :: (X.pn ++ pins))) inSuite hg hw hv q hnn hdbg
    refine named (hit.here ?_)
    refine codeAny_handlers_suite_as ?_
    refine HandSPX.lands_againZ fly fun h4 fly4 up4 => ?_
    have J4 : Inv X pins τ H1 { s1 with heap := h4 } := J0.landed ground fly4.1 ((upto.trans up3).trans up4) osq bare
    obtain ⟨oe4, vs4, at4, z4, d4⟩ := fly4.there
    have inS4 := J4.suite at4 d4 Ha nloc nfs
    refine store_ok (X := X.suite a ((a, oe4) :: (X.pn ++ pins))) (v := .ref a) inS4 nod ni (Or.inl kn) rfl (fun s5 inS5 => ?_) (.inr kn)
    have hi5 : (τ.set i (some (V.ref a)))[i]? = some (some (V.ref a)) := by
      have hlen : i < τ.length := by
        rw [J0.len]
        exact (List.getElem?_eq_some_iff.mp ni).1
      rw [List.getElem?_set_self hlen]
    refine wpAny_mono ((ps1 a oe4 (X.pn ++ pins)).run [] s5 _ H1 { nx := fun σ' H' => σ' = (τ.set i (some (.ref a))).set j (some (.ref a)) ∧ H' = H1, rt := fun _ _ => False, bk := fun _ _ => False, ct := fun _ _ => False } inS5 ⟨.ref a, hi5, rfl, rfl⟩) (fun fl s6 done => ?_) (fun _ _ z => False.elim z)
    cases fl with
    | next =>
      obtain ⟨σ6, H6, in6, rfl, rfl⟩ := done
      have J6 : Inv X ((a, oe4) :: pins) ((τ.set i (some (.ref a))).set j (some (.ref a))) H6 s6 :=
        ⟨good, in6.os, in6.bare, in6.base, in6.loc, in6.cell, in6.free, in6.freeC, fun q hq => in6.pin q (by
          rw [List.append_nil]
          rcases List.mem_append.mp hq with m | m
          · exact List.mem_cons_of_mem _ (List.mem_append_left _ m)
          · rcases List.mem_cons.mp m with e | m
            · rw [e]; exact List.mem_cons_self
            · exact List.mem_cons_of_mem _ (List.mem_append_right _ m)), in6.hok, in6.len⟩
      refine gone_ok J6 nod ni kn fun s7 J7 => ?_
      exact ⟨_, _, Inv_track J7 z4 d4 gone0 pinOff, go a Ha⟩
    | brk =>
      obtain ⟨_, _, _, z⟩ := done
      exact z.elim
    | cont =>
      obtain ⟨_, _, _, z⟩ := done
      exact z.elim
    | ret u =>
      obtain ⟨_, _, _, _, _, z⟩ := done
      exact z.elim
  refine wpAny_mono ((inner (wKeep X.K c i j D) (X.pn ++ pins) xe tak PassesOwn.looking).run [] s σ H D (I.toTry _) h) (fun fl s1 done => ?_) (fun e s1 he => he)
  cases fl with
  | next =>
    obtain ⟨τ, H1, J1, q⟩ := done
    exact wpAny_execs_nil ⟨τ, H1, J1.ofTry good, q⟩
  | brk =>
    obtain ⟨τ, H1, J1, q⟩ := done
    exact ⟨τ, H1, J1.ofTry good, q⟩
  | cont =>
    obtain ⟨τ, H1, J1, q⟩ := done
    exact ⟨τ, H1, J1.ofTry good, q⟩
  | ret u =>
    obtain ⟨v, τ, H1, J1, rv, q⟩ := done
    exact ⟨v, τ, H1, J1.ofTry good, rv, q⟩
end
end Dl

namespace Dl
open PySem L2 Evl
/-- a caught exception of the class C -/
def excE (C : Addr) : En := .th [(C : Int)] fun G v => ∃ a, v = .ref a ∧ G a = some (ExK (.ref C) a)
/-- the dict of an exception, if there is one -/
def HasD (H : Hp) (d : Option Addr) : Prop := d = none ∨ ∃ dd fs, d = some dd ∧ H dd = some (.xd fs)
theorem exd_inst {X : Cx} {pins : List (Addr × Obj)} {σ : St} {H : Hp} {s : Shared} {a D : Addr} {d : Option Addr} (I : Inv X pins σ H s) (ha : H a = some (ExD (.ref D) d a)) (hd : HasD H d) : ∃ oe od, PySem.W.InstAt s.heap a oe D od := by
  obtain ⟨⟨⟨oc, odd, oda, osl⟩, vs, hget, ⟨h1, h2⟩, hv⟩, _, _⟩ := I.hok a _ ha
  dsimp only at h1 h2 hv
  subst h1 h2 hv
  rcases hd with rfl | ⟨dd, fs, rfl, hx⟩
  · exact ⟨_, none, hget, rfl, rfl, trivial⟩
  · obtain ⟨o, ho⟩ := objOk_get (I.hok dd _ hx)
    exact ⟨_, some o, hget, rfl, rfl, ho⟩
theorem cls_some {K : PySem.W.Frag} {D : Addr} (h : PySem.W.hasDictIn K D = true) : (PySem.W.clsIn K D).isSome = true := by
  obtain ⟨cd, hc, _⟩ := PySem.W.any_some h
  rw [hc]
  rfl
/-- isinstance(e, c) of a kept exception -/
def rIsX (K : PySem.W.Frag) : List V → Hp → VK → Prop := fun xs H Q => ∃ (a D : Addr) (d : Option Addr) (c : V) (cv : Value) (b : Bool), xs = [.ref a, c] ∧ H a = some (ExD (.ref D) d a) ∧ HasD H d ∧ ExcC K D ∧ (∀ u, RelV c u → u = cv) ∧ PySem.W.kitOne K (.ref D) cv = some b ∧ Q (.bl b) H
theorem cr_isX {X : Cx} : CallR X (.builtin "isinstance") (rIsX X.K) := by
  intro pins s σ H xs us Q I r h
  obtain ⟨a, D, d, c, cv, b, rfl, ha, hdd, C, hcv, e, q⟩ := h
  match us, r with
  | [u1, u2], .cons r1 (.cons r2 .nil) =>
    cases r1
    rw [hcv _ r2]
    obtain ⟨oe, od, at1⟩ := exd_inst I ha hdd
    exact PySem.W.kia_one (PySem.W.kitx_exc (cls_some C.hd) C.hg C.hk C.hs C.ha C.hn C.ht C.hm) I.kIn at1 e (fun z => nomatch z) fun tk =>
      ⟨.bl b, H, I.kept (t' := tk) fun _ _ z => z, rfl, q⟩
section
variable {K : PySem.W.Frag} {f : Fx} {s : Sx} {δ : List En} {ta tb te tl to : TE} {tt tu : TT} {P R : Sx → En → Prop} {t u : TS} {p : Po} {n c : Nat} {D C : Addr} {es fs : List En} {r w : List (Addr × List En)}
theorem cd_isX {v : V} {cv : Value} {b : Bool} (hC : ExcC K C) (hv : ∀ u, RelV v u → u = cv) (hk : PySem.W.kitOne K (.ref C) cv = some b) : CD K f (rIsX K) s [excE C, .val v] (Is s (.dat (.bool b))) := fun G H vs Q jj a k => by
  cases a with
  | cons h1 t1 =>
    cases t1 with
    | cons h2 t2 =>
      cases t2
      obtain ⟨G0, e0, ad, rfl, q⟩ := h1
      cases (show _ = v from h2)
      exact ⟨ad, C, none, v, cv, b, rfl, jj.ex _ _ (e0 _ _ q), .inl rfl, hC, hv, hk, fD k jj (.bl _)⟩
theorem excE_inj {C C' : Addr} (h : excE C = excE C') : C = C' := by
  unfold excE at h
  injection h with h1 _
  injection h1 with h2 _
  exact Int.ofNat.inj h2
theorem excE_ne (G : Hp) (v : V) (h : ∃ a, v = .ref a ∧ G a = some (ExK (.ref C) a)) : v ≠ .non := by
  obtain ⟨a, rfl, _⟩ := h
  intro z
  cases z
/-! ### what is raised -/
/-- a way out for exceptions: told by f alone -/
def Xw (K : PySem.W.Frag) (f : Fx) (W : WX) (px : Sx → List En → Addr → Prop) : Prop := ∀ s σ δ G H C, Slots K G σ δ → J K f s G H → px s δ C → W (.ref C) none σ H
def tRaise (W : WX) (C : Addr) : TS := fun _ σ H => W (.ref C) none σ H
theorem sd_raise {W : WX} {px : Sx → List En → Addr → Prop} (hx : Xw K f W px) (h : px s δ C) : SD K f s (tRaise W C) δ p := fun G H σ D sl j _ => hx s σ δ G H C sl j h
/-- a def of data alone that may raise -/
def spX (K : PySem.W.Frag) (A : List En → Prop) (R : List En → En → Prop) (Rx : List En → Addr → Prop) : Sp := fun vs H Q E => ∃ G es, Ex G H ∧ TF G ∧ Vs K G vs es ∧ A es ∧
  (∀ v x G2 H2, Ex G G2 → Ex G2 H2 → Ex H H2 → (∀ b, G2 b ≠ none → G b = none → H b = none) → TF G2 → Ok K G2 v x → R es x → Q v H2) ∧
  ∀ C G2 H2, Ex G G2 → Ex G2 H2 → Ex H H2 → (∀ b, G2 b ≠ none → G b = none → H b = none) → TF G2 → Rx es C → E (.ref C) none H2
theorem ed_callX {A : List En → Prop} {R : List En → En → Prop} {Rx : List En → Addr → Prop} {W : WX} {px : Sx → List En → Addr → Prop} {t : TA} {es : List En} {P : Sx → En → Prop} (hx : Xw K f W px) (h : EA K f s t δ (Is s es)) (a : A es) (i : ∀ x, R es x → P s x) (ix : ∀ C, Rx es C → px s δ C) :
    ED K f s (tCallS (spX K A R Rx) (WE W) t) δ P := fun G H σ Q sl b c =>
  h G H σ _ sl b fun vs xs s1 G1 H1 e1 j1 o1 p1 => by
    obtain ⟨rfl, rfl⟩ := p1
    exact ⟨G1, _, j1.ex, j1.tf, o1, a, fun w x G2 H2 x1 x2 x3 fr t2 o r => c w x _ G2 H2 (e1.trans x1) (j1.pure x1 x2 x3 fr t2) o (i x r),
      fun C G2 H2 x1 x2 x3 fr t2 r => hx _ σ δ G2 H2 C (Slots.mono (e1.trans x1) sl) (j1.pure x1 x2 x3 fr t2) (ix C r)⟩
/-- .. of a def that raises nothing, as if it might -/
theorem spX_len {A : List En → Prop} {R : List En → En → Prop} {Rx : List En → Addr → Prop} {n : Nat} (hA : ∀ es, A es → es.length = n) (vs : List V) (H : Hp) (Q : VK) (E : XK) (h : spX K A R Rx vs H Q E) : vs.length = n := by
  obtain ⟨G, es, _, _, v, a, _⟩ := h
  rw [v.len, hA es a]
theorem run_pureX {A : List En → Prop} {R : List En → En → Prop} {Rx : List En → Addr → Prop} {N : List Str} {vs : List V} {H : Hp} {Q : VK} {E : XK} (h : spX K A R Rx vs H Q E)
    (hb : ∀ f s es, A es → Xw K f (fun cls d _ H' => E cls d H') (fun _ _ C => Rx es C) → SD K f s t (es ++ List.replicate (N.length - es.length) .no) ⟨fun _ _ => R es (.dat .none), fun _ x => R es x, fun _ _ => False, fun _ _ => False⟩) : t { nx := fun _ H' => Q .non H', rt := Q } (start N vs) H := by
  obtain ⟨G, es, e, tf, v, a, k, kx⟩ := h
  have jj : J K ⟨none, H, G⟩ ⟨0, []⟩ G H := ⟨e, (fun D es m => by cases m), List.nodup_nil, (fun p c z => by cases z), fun b o _ z => z, Ex.refl G, fun b h1 h2 => absurd h2 h1, tf⟩
  have np : ∀ b, ¬ isPu (⟨none, H, G⟩ : Fx) b := fun b ⟨p, c, z, _⟩ => by cases z
  have sl : Slots K G (start N vs) (es ++ List.replicate (N.length - es.length) .no) := by
    unfold L2.start
    rw [v.len]
    exact Slots.start v _
  refine hb ⟨none, H, G⟩ ⟨0, []⟩ es a (fun s' σ' δ' G2 H2 C _ j2 r => ?_) G H _ _ sl jj ⟨fun σ δ s' G2 H2 e2 j2 _ r => ?_, fun w x s' G2 H2 e2 j2 o r => ?_, fun _ _ _ _ _ _ _ _ z => z.elim, fun _ _ _ _ _ _ _ _ z => z.elim⟩
  · exact kx C G2 H2 j2.g0 j2.ex (fun b o z => j2.fr b o (np b) z) j2.fs j2.tf r
  · exact k .non (.dat .none) G2 H2 e2 j2.ex (fun b o z => j2.fr b o (np b) z) j2.fs j2.tf .non r
  · exact k w x G2 H2 e2 j2.ex (fun b o z => j2.fr b o (np b) z) j2.fs j2.tf o r
/-- .. by keywords -/
def tCallKS (sp : Sp) (gV : List V → List V → List V) (E : St → XK) (t tk : TA) : TE := fun σ H Q => t σ H fun vs H1 => tk σ H1 fun zs H2 => sp (gV vs zs) H2 Q (E σ)
/-- try .. except C as e: y = e; the lists of our own are not told within -/
theorem sd_try {tb : WX → TS} {cc : Value} {i j : Nat} (hb : ∀ f' W, f'.pu = f.pu → Xw K f' W (fun s' δ' C => s'.own = [] ∧ PySem.W.exmOne K (.ref C) cc = some true ∧ p.nx ⟨s'.n, s.own⟩ (((δ'.set i (excE C)).set j (excE C)).set i .no)) →
      SD K f' ⟨s.n, []⟩ (tb W) δ ⟨fun s' δ' => s'.own = [] ∧ p.nx ⟨s'.n, s.own⟩ δ', fun s' x => s'.own = [] ∧ p.rt ⟨s'.n, s.own⟩ x, fun s' δ' => s'.own = [] ∧ p.bk ⟨s'.n, s.own⟩ δ', fun s' δ' => s'.own = [] ∧ p.ct ⟨s'.n, s.own⟩ δ'⟩) :
    SD K f s (tTry K cc i j tb) δ p := fun G H σ D sl jj c => by
  unfold tTry
  have own1 : ∀ s' : Sx, s'.own = [] → s' = ⟨s'.n, []⟩ := fun s' e => by
    obtain ⟨m, o⟩ := s'
    cases e
    rfl
  refine hb ⟨f.pu, H, G⟩ _ rfl (fun s' σ' δ' G2 H2 C sl2 j2 q => ?_) G H σ D sl (J.enter (n := s.n) (r := s.own) jj) ⟨fun σ' δ' s' G2 H2 e2 j2 sl2 q => ?_, fun v x s' G2 H2 e2 j2 o q => ?_, fun σ' δ' s' G2 H2 e2 j2 sl2 q => ?_, fun σ' δ' s' G2 H2 e2 j2 sl2 q => ?_⟩
  · obtain ⟨q1, q2, q3⟩ := q
    refine ⟨q2, fun a ha => ?_⟩
    rw [own1 s' q1] at j2
    have ea : Ex G2 (upd G2 a (ExK (.ref C) a)) := Ex.new (fresh_back j2.ex ha)
    have oa : Ok K (upd G2 a (ExK (.ref C) a)) (.ref a) (excE C) := ⟨_, Ex.refl _, a, rfl, upd_same⟩
    have j3 := J.leave (n := s.n) (r := s.own) jj (j2.alloc ha (ExK (.ref C) a) trivial)
    exact c.nx _ _ _ _ _ (Ex.trans (show Ex G G2 from j2.g0) ea) j3 (Slots.set (x := .no) (v := none) trivial i (Slots.set (SOk.of oa) j (Slots.set (SOk.of oa) i (Slots.mono ea sl2)))) q3
  · rw [own1 s' q.1] at j2
    exact c.nx σ' δ' _ G2 H2 e2 (J.leave (n := s.n) (r := s.own) jj j2) sl2 q.2
  · rw [own1 s' q.1] at j2
    exact c.rt v x _ G2 H2 e2 (J.leave (n := s.n) (r := s.own) jj j2) o q.2
  · rw [own1 s' q.1] at j2
    exact c.bk σ' δ' _ G2 H2 e2 (J.leave (n := s.n) (r := s.own) jj j2) sl2 q.2
  · rw [own1 s' q.1] at j2
    exact c.ct σ' δ' _ G2 H2 e2 (J.leave (n := s.n) (r := s.own) jj j2) sl2 q.2
end
section
variable {X : Cx} {CX : CXT} {k : Nat} {f : Addr} {fd : FuncData} {ps ks : List Str} {sp : Sp} {x : Str} {p pos : Pos} {E : St → XK} {g : List Value → List Value → List Value} {gV : List V → List V → List V} {kws : List Keyword} {t tk : TA} {e : Expr} {es : List Expr}
theorem run_keyS {pins : List (Addr × Obj)} {σ : St} {H : Hp} {s : Shared} {Q : VK} {us ws : List Value} {vs zs : List V} (F : FnOk X.prog X.w X.K X.mg X.base CX k f fd ps sp) (hr : Room k X.A) (hb : KBinds X.K fd ps ks g gV) (hx : PassesAt CX X σ (E σ))
    (I : Inv X pins σ H s) (r : Vals vs us) (rz : Vals zs ws) (h : sp (gV vs zs) H Q (E σ)) : wpAny (model X.prog X.w) X.A (call (.ref f) us (ks.zip ws)) (EP X pins σ Q) X.xe s := by
  have both := hb.rel r rz
  have fits : (g us ws).length = ps.length := both.length ▸ F.len _ _ _ _ h
  refine wpAny_call (codeAny_mono (F.run X.A X.stack s H ⟨us, ks.zip ws⟩ (g us ws) (gV vs zs) Q (E σ) hr I.env0 (hb.to s us ws I.kIn fits) both h) fun out s' hq => ?_)
  rcases out with er | (u | _ | _ | _)
  · first
      | exact hx pins H s er s' I hq
      | exact I.after hq
      | exact hq.elim
  all_goals first
    | exact I.after hq
    | exact False.elim hq
theorem pe_callKS (F : FnOk X.prog X.w X.K X.mg X.base CX k f fd ps sp) (hr : Room k X.A) (hg : Gl X x) (hm : X.mg x = some (.ref f)) (hk : PySem.W.keepIn X.K (.ref f) = true) (hb : KBinds X.K fd ps ks g gV) (hx : ∀ σ, PassesAt CX X σ (E σ))
    (ha : PA X (e :: es) t) (hkw : PK X kws tk) (hall : (backToKw pos (keywordEach kws X.env)).all (·.1.isSome) = true := by rfl) (hks : (backToKw pos (keywordEach kws X.env)).filterMap (·.1) = ks := by rfl)
    (hdb : (x == ("__debug__" : Str)) = false := by decide) (he : starEach (e :: es) X.env = (false, eval e X.env) :: starEach es X.env := by rfl) (hpl : ((backTo pos (starEach (e :: es) X.env)).any (·.1) || (backToKw pos (keywordEach kws X.env)).any (·.1.isNone)) = false := by rfl) : PE X (.Call (.Name x p) (e :: es) kws pos) (tCallKS sp gV E t tk) :=
  ⟨fun pins s σ H Q I h => wpAny_Call_Name_kw (ld_glob I hg hm (PySem.W.callWith_KW (h₀ := X.base) I.ok.mod.kin hk hall (thn (ha.run pos pins s σ H _ I h) fun us s1 ⟨vs, H1, I1, r, q⟩ =>
    thn (hkw.run pos pins s1 σ H1 _ I1 q) fun ws s2 ⟨zs, H2, I2, rz, q2⟩ => ⟨I2.kIn, by rw [hks]; exact run_keyS F hr hb (hx σ) I2 r rz q2⟩) hpl he) hdb)⟩
theorem pe_callK0S (F : FnOk X.prog X.w X.K X.mg X.base CX k f fd ps sp) (hr : Room k X.A) (hg : Gl X x) (hm : X.mg x = some (.ref f)) (hk : PySem.W.keepIn X.K (.ref f) = true) (hb : KBinds X.K fd ps ks g gV) (hx : ∀ σ, PassesAt CX X σ (E σ))
    (hkw : PK X kws tk) (hall : (backToKw pos (keywordEach kws X.env)).all (·.1.isSome) = true := by rfl) (hks : (backToKw pos (keywordEach kws X.env)).filterMap (·.1) = ks := by rfl)
    (hdb : (x == ("__debug__" : Str)) = false := by decide) (hpl : ((backTo pos (starEach [] X.env)).any (·.1) || (backToKw pos (keywordEach kws X.env)).any (·.1.isNone)) = false := by rfl) : PE X (.Call (.Name x p) [] kws pos) (tCallKS sp gV E tNil tk) :=
  ⟨fun pins s σ H Q I h => wpAny_Call_Name_kw (ld_glob I hg hm (PySem.W.callWith_KW0 (h₀ := X.base) I.ok.mod.kin hk hall (thn (hkw.run pos pins s σ H _ I h) fun ws s2 ⟨zs, H2, I2, rz, q2⟩ =>
    ⟨I2.kIn, by rw [hks]; exact run_keyS (us := []) (vs := []) F hr hb (hx σ) I2 .nil rz q2⟩) hpl) hdb)⟩
end
section
variable {K : PySem.W.Frag} {f : Fx} {s : Sx} {δ : List En}
theorem ed_callKX {A : List En → Prop} {R : List En → En → Prop} {Rx : List En → Addr → Prop} {W : WX} {px : Sx → List En → Addr → Prop} {t tk : TA} {gV : List V → List V → List V} {es fs : List En} {P : Sx → En → Prop} (hx : Xw K f W px) (h : EA K f s t δ (Is s es)) (hk : EA K f s tk δ (Is s fs)) (gs : List En)
    (hg : ∀ G vs zs, Vs K G vs es → Vs K G zs fs → Vs K G (gV vs zs) gs) (a : A gs) (i : ∀ x, R gs x → P s x) (ix : ∀ C, Rx gs C → px s δ C) : ED K f s (tCallKS (spX K A R Rx) gV (WE W) t tk) δ P := fun G H σ Q sl b c =>
  h G H σ _ sl b fun vs xs s1 G1 H1 e1 j1 o1 p1 => by
    obtain ⟨rfl, rfl⟩ := p1
    refine hk G1 H1 σ _ (Slots.mono e1 sl) j1 fun zs ys s2 G2 H2 e2 j2 o2 p2 => ?_
    obtain ⟨rfl, rfl⟩ := p2
    have e12 := e1.trans e2
    exact ⟨G2, gs, j2.ex, j2.tf, hg G2 vs zs (Vs.mono e2 o1) o2, a, fun w x G3 H3 x1 x2 x3 fr t2 o r => c w x _ G3 H3 (e12.trans x1) (j2.pure x1 x2 x3 fr t2) o (i x r),
      fun C G3 H3 x1 x2 x3 fr t2 r => hx _ σ δ G3 H3 C (Slots.mono (e12.trans x1) sl) (j2.pure x1 x2 x3 fr t2) (ix C r)⟩
end
end Dl

namespace Dl
open PySem L2 Evl
/-! ### classes of refusal -/
/-- a class that may be raised, caught and asked for: one look at the written part; CE: the class that an except names -/
def raiB (K : PySem.W.Frag) (C CE : Addr) : Bool :=
  PySem.W.excIn K C [.type "ValueError", .type "Exception", .type "BaseException", .type "object"] "ValueError.__new__" && PySem.W.keepIn K (.ref C)
    && (PySem.W.subIn K (.ref C) (.type "BaseException") == some true) && (PySem.W.typeIn K (.ref C) == some (.type "type")) && (PySem.W.exmOne K (.ref C) (.ref CE) == some true)
def askB (K : PySem.W.Frag) (D : Addr) : Bool :=
  (PySem.W.findIn K (.ref D) "__getattribute__" == some (some (.builtin "BaseException.__getattribute__"))) && (PySem.W.findIn K (.ref D) "__getattr__" == some none)
    && (PySem.W.subIn K (.ref D) (.type "BaseException") == some true) && PySem.W.hasDictIn K D && (PySem.W.findIn K (.ref D) "__class__" == some (some (.builtin "object.__class__")))
    && (PySem.W.specialIn K (.builtin "object.__class__") "__get__" == some (some (.builtin "getset_descriptor.__get__"))) && (PySem.W.takesIn K (.builtin "object.__class__") == some true) && (PySem.W.mroIn K D (.type "object") == some true)
    && (PySem.W.kitOne K (.ref D) (.type "ValueError") == some true)
structure Rai (K : PySem.W.Frag) (mg : Str → Option Value) (x : Str) (C : Addr) : Prop where
  g : mg x = some (.ref C)
  x : PySem.W.excIn K C [.type "ValueError", .type "Exception", .type "BaseException", .type "object"] "ValueError.__new__" = true
  k : PySem.W.keepIn K (.ref C) = true
  b : PySem.W.subIn K (.ref C) (.type "BaseException") = some true
  t : PySem.W.typeIn K (.ref C) = some (.type "type")
theorem rai_of {K : PySem.W.Frag} {mg : Str → Option Value} {x : Str} {C CE : Addr} (g : mg x = some (.ref C)) (h : raiB K C CE = true) : Rai K mg x C ∧ PySem.W.exmOne K (.ref C) (.ref CE) = some true := by
  unfold raiB at h
  simp only [Bool.and_eq_true, beq_iff_eq] at h
  obtain ⟨⟨⟨⟨h1, h2⟩, h3⟩, h4⟩, h5⟩ := h
  exact ⟨⟨g, h1, h2, h3, h4⟩, h5⟩
theorem ask_of {K : PySem.W.Frag} {D : Addr} (h : askB K D = true) : ExcC K D ∧ PySem.W.kitOne K (.ref D) (.type "ValueError") = some true := by
  unfold askB at h
  simp only [Bool.and_eq_true, beq_iff_eq] at h
  obtain ⟨⟨⟨⟨⟨⟨⟨⟨h1, h2⟩, h3⟩, h4⟩, h5⟩, h6⟩, h7⟩, h8⟩, h9⟩ := h
  exact ⟨⟨h1, h2, h3, h4, h5, h6, h7, h8⟩, h9⟩
theorem ps_raiseT {X : Cx} {W : WX} {C : Addr} {x m : Str} {j : Nat} {p p2 pos pos2 : Pos} (hc : X.calm = true) (tk : Takes X W) (R : Rai X.K X.mg x C) (hg : Gl X x) (hdb : (x == ("__debug__" : Str)) = false := by decide) :
    PS X (.Raise (some (.Call (.Name x p) [.Constant (.str m) j p2] [] pos)) none pos2) (tRaise W C) := ps_raise hc tk (pmk_own PySem.F.excBase_ValueError R.x R.g R.k (raises_own R.b R.t) hg hdb)
/-- of which of the classes cs an exception of D is -/
def kitAll (K : PySem.W.Frag) (D : Addr) : List Addr → List Bool → Bool
  | [], [] => true
  | c :: cs, b :: bs => (PySem.W.kitOne K (.ref D) (.ref c) == some b) && kitAll K D cs bs
  | _, _ => false
theorem kitAll_get {K : PySem.W.Frag} {D : Addr} : ∀ {cs : List Addr} {bs : List Bool}, kitAll K D cs bs = true → ∀ {i : Nat} {c : Addr}, cs[i]? = some c → ∃ b, bs[i]? = some b ∧ PySem.W.kitOne K (.ref D) (.ref c) = some b
  | c :: cs, b :: bs, h, 0, _, e => by
    simp only [List.getElem?_cons_zero, Option.some.injEq] at e
    subst e
    unfold kitAll at h
    exact ⟨b, rfl, beq_iff_eq.mp (Bool.and_eq_true_iff.mp h).1⟩
  | c :: cs, b :: bs, h, i + 1, _, e => by
    unfold kitAll at h
    obtain ⟨b', h1, h2⟩ := kitAll_get (Bool.and_eq_true_iff.mp h).2 (i := i) (by simpa using e)
    exact ⟨b', by simpa using h1, h2⟩
  | [], _, _, _, _, e => by simp at e
  | _ :: _, [], h, _, _, _ => by cases h
def indB (n i : Nat) : List Bool := (List.range n).map fun j => decide (j = i)
theorem kit_at {K : PySem.W.Frag} {D : Addr} {cs : List Addr} {n i j : Nat} {c : Addr} (h : kitAll K D cs (indB n i) = true) (e : cs[j]? = some c) : PySem.W.kitOne K (.ref D) (.ref c) = some (decide (j = i)) := by
  obtain ⟨b, h1, h2⟩ := kitAll_get h e
  unfold indB at h1
  rw [List.getElem?_map] at h1
  obtain ⟨k, hk, rfl⟩ := Option.map_eq_some_iff.mp h1
  have := List.getElem?_eq_some_iff.mp hk
  obtain ⟨_, e2⟩ := this
  rw [List.getElem_range] at e2
  rw [h2, e2]
section
variable {K : PySem.W.Frag} {f : Fx} {s : Sx} {δ : List En} {ta te : TE} {C : Addr}
theorem relv_ref {c : Addr} {u : Value} (h : RelV (.ref c) u) : u = .ref c := by
  cases h
  rfl
theorem ed_isCls {c : Addr} {b : Bool} (hC : ExcC K C) (h : ED K f s te δ (Is s (excE C))) (hk : PySem.W.kitOne K (.ref C) (.ref c) = some b) : ED K f s (tCB (rIsX K) (tCons te (tCons (tC (.ref c)) tNil))) δ (Is s (.dat (.bool b))) :=
  ed_cb (ea_cons h (ea_cons ed_c ea_nil)) (cd_isX hC (fun u r => relv_ref r) hk)
theorem relv_ty {n : String} {u : Value} (h : RelV (.ty n) u) : u = .type n := by
  cases h
  rfl
theorem ed_isClsT {n : String} {b : Bool} (hC : ExcC K C) (h : ED K f s te δ (Is s (excE C))) (hk : PySem.W.kitOne K (.ref C) (.type n) = some b) : ED K f s (tCB (rIsX K) (tCons te (tCons (tC (.ty n)) tNil))) δ (Is s (.dat (.bool b))) :=
  ed_cb (ea_cons h (ea_cons ed_c ea_nil)) (cd_isX hC (fun u r => relv_ty r) hk)
end
section
variable {K : PySem.W.Frag} {f : Fx} {s : Sx} {δ : List En} {ta te : TE} {tt tu : TT}
theorem et_testN {PT : Sx → Bool → Prop} (h : ED K f s te δ (fun s' x => ∃ b, x = .dat (.bool b) ∧ PT s' b)) : ET K f s (tTest te) δ PT := fun G H σ Q sl j c => h G H σ _ sl j fun v x s1 G1 H1 e1 j1 o1 p1 => by
  obtain ⟨b, rfl, q⟩ := p1
  cases o1
  exact ⟨_, rfl, c _ _ G1 H1 e1 j1 q⟩
theorem et_orN {PT P : Sx → Bool → Prop} (h1 : ET K f s tt δ PT) (h2 : ∀ s1, PT s1 false → ET K f s1 tu δ P) (h3 : ∀ s1, PT s1 true → P s1 true) : ET K f s (tOr tt tu) δ P := fun G H σ Q sl j c => h1 G H σ _ sl j fun v s1 G1 H1 e1 j1 p1 => by
  cases v with
  | true =>
    show Q true H1
    exact c _ _ G1 H1 e1 j1 (h3 s1 p1)
  | false =>
    show tu σ H1 Q
    exact h2 s1 p1 G1 H1 σ Q (Slots.mono e1 sl) j1 fun v s2 G2 H2 e2 j2 p2 => c v s2 G2 H2 (e1.trans e2) j2 p2
end
end Dl

/-! Code as functions over trees of data: the evaluator's values, its answers, and what ties them to the heap. -/
namespace Ev
open PySem L2 Evl Dl

inductive Tr where
  | non | bl (b : Bool) | int (i : Int) | str (x : Str) | lst (ts : List Tr) | tup (ts : List Tr) | exc (C : Addr) | obj (C : Addr) (ns : List Str) (ts : List Tr)

/-! ### what an exception's number tells: its class, and if it carries a field, which one and what number -/
def xCls (c : Nat) : Nat := c % 1000000
def xFld (c : Nat) : Str := if c / 1000000 % 2 = 1 then "row" else "at"
def xRow (c : Nat) : Int := ((c / 2000000 : Nat) : Int) - 1
def xcode (C b r : Nat) : Nat := 1000000 * (2 * (r + 1) + b) + C
def XO (H : Hp) (c : Nat) (d : Option Addr) : Prop := (c < 1000000 ∧ d = none) ∨ (1000000 ≤ c ∧ ∃ dd, d = some dd ∧ H dd = some (.xd [(xFld c, .int (xRow c))]))
theorem XO.mono {H H' : Hp} {c : Nat} {d : Option Addr} (x : Ex H H') (h : XO H c d) : XO H' c d := h.imp id fun ⟨a, dd, e, q⟩ => ⟨a, dd, e, x _ _ q⟩
theorem XO.has {H : Hp} {c : Nat} {d : Option Addr} (h : XO H c d) : HasD H d := h.imp (·.2) fun ⟨_, dd, e, q⟩ => ⟨dd, _, e, q⟩
theorem XO.small {H : Hp} {C : Nat} {d : Option Addr} (h : XO H C d) (hC : C < 1000000) : d = none := by
  rcases h with ⟨_, e⟩ | ⟨l, _⟩
  · exact e
  · exact absurd hC (Nat.not_lt.mpr l)
theorem xCls_small {C : Nat} (h : C < 1000000) : xCls C = C := Nat.mod_eq_of_lt h
theorem xcode_at {C b r : Nat} (hC : C < 1000000) (hb : b < 2) : 1000000 ≤ xcode C b r ∧ xCls (xcode C b r) = C ∧ xcode C b r / 1000000 % 2 = b ∧ xRow (xcode C b r) = r := by
  have e : xcode C b r = 1000000 * (2 * (r + 1) + b) + C := rfl
  refine ⟨by omega, ?_, by omega, ?_⟩
  · unfold xCls
    omega
  · have : xcode C b r / 2000000 = r + 1 := by omega
    unfold xRow
    rw [this]
    omega
mutual
inductive Tp (K : PySem.W.Frag) (G : Hp) : V → Tr → Prop where
  | non : Tp K G .non .non
  | bl (b : Bool) : Tp K G (.bl b) (.bl b)
  | int (i : Int) : Tp K G (.int i) (.int i)
  | str (x : Str) : Tp K G (.str x) (.str x)
  | lst {a : Addr} {xs : List V} {ts : List Tr} : G a = some (.lst xs) → TpAll K G xs ts → Tp K G (.ref a) (.lst ts)
  | tup {a : Addr} {xs : List V} {ts : List Tr} : SqT K G a xs → TpAll K G xs ts → Tp K G (.ref a) (.tup ts)
  | exc {a C : Addr} {d : Option Addr} : G a = some (ExD (.ref (xCls C)) d a) → XO G C d → Tp K G (.ref a) (.exc C)
  | obj {a C dx : Addr} {vs : List V} {ns : List Str} {ts : List Tr} : G a = some (.ins C dx (ns.zip vs)) → ns.length = vs.length → TpAll K G vs ts → Tp K G (.ref a) (.obj C ns ts)
inductive TpAll (K : PySem.W.Frag) (G : Hp) : List V → List Tr → Prop where
  | nil : TpAll K G [] []
  | cons {v : V} {vs : List V} {t : Tr} {ts : List Tr} : Tp K G v t → TpAll K G vs ts → TpAll K G (v :: vs) (t :: ts)
end
mutual
theorem Tp.mono {K : PySem.W.Frag} {G G' : Hp} (e : Ex G G') : ∀ {v : V} {d : Tr}, Tp K G v d → Tp K G' v d
  | _, _, .non => .non
  | _, _, .bl b => .bl b
  | _, _, .int i => .int i
  | _, _, .str x => .str x
  | _, _, .lst s a => .lst (e _ _ s) (TpAll.mono e a)
  | _, _, .tup s a => .tup (ex_t e s) (TpAll.mono e a)
  | _, _, .exc h o => .exc (e _ _ h) (o.mono e)
  | _, _, .obj h l a => .obj (e _ _ h) l (TpAll.mono e a)
theorem TpAll.mono {K : PySem.W.Frag} {G G' : Hp} (e : Ex G G') : ∀ {vs : List V} {ds : List Tr}, TpAll K G vs ds → TpAll K G' vs ds
  | _, _, .nil => .nil
  | _, _, .cons h t => .cons (Tp.mono e h) (TpAll.mono e t)
end
theorem TpAll.len {K : PySem.W.Frag} {G : Hp} : ∀ {vs : List V} {ds : List Tr}, TpAll K G vs ds → vs.length = ds.length
  | _, _, .nil => rfl
  | _, _, .cons _ t => congrArg Nat.succ (TpAll.len t)
theorem TpAll.get {K : PySem.W.Frag} {G : Hp} : ∀ {vs : List V} {ds : List Tr} {i : Nat} {d : Tr}, TpAll K G vs ds → ds[i]? = some d → ∃ v, vs[i]? = some v ∧ Tp K G v d
  | _, _, 0, _, .cons h _, e => by
    simp only [List.getElem?_cons_zero, Option.some.injEq] at e
    subst e
    exact ⟨_, rfl, h⟩
  | _, _, i + 1, _, .cons _ t, e => by
    simp only [List.getElem?_cons_succ] at e
    obtain ⟨v, a, b⟩ := TpAll.get t e
    exact ⟨v, by simpa using a, b⟩
theorem TpAll.getV {K : PySem.W.Frag} {G : Hp} : ∀ {vs : List V} {ds : List Tr} {i : Nat} {v : V}, TpAll K G vs ds → vs[i]? = some v → ∃ d, ds[i]? = some d ∧ Tp K G v d
  | _, _, 0, _, .cons h _, e => by
    simp only [List.getElem?_cons_zero, Option.some.injEq] at e
    subst e
    exact ⟨_, rfl, h⟩
  | _, _, i + 1, _, .cons _ t, e => by
    simp only [List.getElem?_cons_succ] at e
    obtain ⟨v, a, b⟩ := TpAll.getV t e
    exact ⟨v, by simpa using a, b⟩
theorem TpAll.cat {K : PySem.W.Frag} {G : Hp} : ∀ {vs ws : List V} {es fs : List Tr}, TpAll K G vs es → TpAll K G ws fs → TpAll K G (vs ++ ws) (es ++ fs)
  | _, _, _, _, .nil, h => h
  | _, _, _, _, .cons a t, h => .cons a (TpAll.cat t h)
theorem TpAll.setAt {K : PySem.W.Frag} {G : Hp} {v : V} {x : Tr} : ∀ {vs : List V} {es : List Tr} (i : Nat), TpAll K G vs es → Tp K G v x → TpAll K G (vs.set i v) (es.set i x)
  | _, _, _, .nil, _ => .nil
  | _, _, 0, .cons _ t, h => .cons h t
  | _, _, i + 1, .cons a t, h => .cons a (TpAll.setAt i t h)
theorem TpAll.dropN {K : PySem.W.Frag} {G : Hp} : ∀ {vs : List V} {es : List Tr} (i : Nat), TpAll K G vs es → TpAll K G (vs.drop i) (es.drop i)
  | _, _, 0, h => h
  | _, _, _ + 1, .nil => .nil
  | _, _, i + 1, .cons _ t => TpAll.dropN i t
theorem TpAll.takeN {K : PySem.W.Frag} {G : Hp} : ∀ {vs : List V} {es : List Tr} (i : Nat), TpAll K G vs es → TpAll K G (vs.take i) (es.take i)
  | _, _, 0, _ => .nil
  | _, _, _ + 1, .nil => .nil
  | _, _, i + 1, .cons a t => .cons a (TpAll.takeN i t)
def enT (K : PySem.W.Frag) (t : Tr) : En := .th [] fun G v => Tp K G v t
theorem ok_enT {K : PySem.W.Frag} {G : Hp} {v : V} {t : Tr} : Ok K G v (enT K t) ↔ Tp K G v t :=
  ⟨fun ⟨_, e, h⟩ => h.mono e, fun h => ⟨G, Ex.refl G, h⟩⟩
theorem vs_enT {K : PySem.W.Frag} {G : Hp} : ∀ {vs : List V} {ts : List Tr}, Vs K G vs (ts.map (enT K)) → TpAll K G vs ts
  | _, [], h => by cases h; exact .nil
  | _, d :: ds, h => by
    cases h with
    | cons a b => exact .cons (ok_enT.mp a) (vs_enT b)
theorem vs_of {K : PySem.W.Frag} {G : Hp} : ∀ {vs : List V} {ts : List Tr}, TpAll K G vs ts → Vs K G vs (ts.map (enT K))
  | _, _, .nil => .nil
  | _, _, .cons a b => .cons (ok_enT.mpr a) (vs_of b)

/-! ### data -/
def okT : Nat → Tr → Bool
  | 0, _ => false
  | _ + 1, .non => true
  | _ + 1, .bl _ => true
  | _ + 1, .int _ => true
  | _ + 1, .str x => (PyData.str x).canLay0
  | k + 1, .lst ts => ts.all (okT k)
  | k + 1, .tup ts => ts.all (okT k)
  | _ + 1, .exc _ => false
  | _ + 1, .obj _ _ _ => false
mutual
def toD : Tr → PyData
  | .non => .none
  | .bl b => .bool b
  | .int i => .int i
  | .str x => .str x
  | .lst ts => .list (toDs ts)
  | .tup ts => .tuple (toDs ts)
  | .exc _ => .none
  | .obj _ _ _ => .none
def toDs : List Tr → List PyData
  | [] => []
  | t :: ts => toD t :: toDs ts
end
theorem toDs_map : ∀ ts : List Tr, toDs ts = ts.map toD
  | [] => rfl
  | t :: ts => by rw [toDs, toDs_map ts]; rfl
mutual
theorem tp_dp {K : PySem.W.Frag} {G : Hp} : ∀ {k : Nat} {v : V} {t : Tr}, Tp K G v t → okT k t = true → Dp K G v (toD t)
  | 0, _, _, _, h => by cases h
  | _ + 1, _, _, .non, _ => .non
  | _ + 1, _, _, .bl b, _ => .bl b
  | _ + 1, _, _, .int i, _ => .int i
  | _ + 1, _, _, .str x, _ => .str x
  | k + 1, _, _, .lst s a, h => .lst (sq_of s) (tpa_dp (k := k) a (by simpa [okT] using h))
  | k + 1, _, _, .tup s a, h => .tup s (tpa_dp (k := k) a (by simpa [okT] using h))
  | _ + 1, _, _, .exc _ _, h => by cases h
  | _ + 1, _, _, .obj _ _ _, h => by cases h
theorem tpa_dp {K : PySem.W.Frag} {G : Hp} : ∀ {k : Nat} {vs : List V} {ts : List Tr}, TpAll K G vs ts → (∀ t ∈ ts, okT k t = true) → DpAll K G vs (toDs ts)
  | _, _, _, .nil, _ => .nil
  | k, _, _, .cons a b, h => .cons (tp_dp (k := k) a (h _ (List.mem_cons_self ..))) (tpa_dp (k := k) b fun t m => h t (List.mem_cons_of_mem _ m))
end
mutual
theorem okT_lay : ∀ {k : Nat} {t : Tr}, okT k t = true → (toD t).canLay0 = true ∧ (toD t).depth ≤ k
  | 0, _, h => by cases h
  | k + 1, .non, _ => ⟨rfl, by simp [toD, PyData.depth]⟩
  | k + 1, .bl _, _ => ⟨rfl, by simp [toD, PyData.depth]⟩
  | k + 1, .int _, _ => ⟨rfl, by simp [toD, PyData.depth]⟩
  | k + 1, .str _, h => ⟨h, by simp [toD, PyData.depth]⟩
  | k + 1, .lst ts, h => by
    obtain ⟨a, b⟩ := okT_lays (k := k) (ts := ts) (by simpa [okT] using h)
    refine ⟨by simp [toD, PyData.canLay0, a], ?_⟩
    simp only [toD, PyData.depth]
    omega
  | k + 1, .tup ts, h => by
    obtain ⟨a, b⟩ := okT_lays (k := k) (ts := ts) (by simpa [okT] using h)
    refine ⟨by simp [toD, PyData.canLay0, a], ?_⟩
    simp only [toD, PyData.depth]
    omega
  | _ + 1, .exc _, h => by cases h
  | _ + 1, .obj _ _ _, h => by cases h
theorem okT_lays : ∀ {k : Nat} {ts : List Tr}, (∀ t ∈ ts, okT k t = true) → PyData.canLayAll0 (toDs ts) = true ∧ PyData.depthAll (toDs ts) ≤ k
  | k, [], _ => ⟨by simp [toDs, PyData.canLayAll0], by simp [toDs, PyData.depthAll]⟩
  | k, t :: ts, h => by
    obtain ⟨a, b⟩ := okT_lay (h t (List.mem_cons_self ..))
    obtain ⟨c, d⟩ := okT_lays (k := k) (ts := ts) fun t m => h t (List.mem_cons_of_mem _ m)
    refine ⟨by simp [toDs, PyData.canLayAll0, a, c], ?_⟩
    simp only [toDs, PyData.depthAll]
    omega
end
theorem okT_shaped {t : Tr} (h : okT 20 t = true) : SeqAt.shaped (toD t) = true := by
  obtain ⟨a, b⟩ := okT_lay h
  unfold SeqAt.shaped
  rw [Bool.and_eq_true, decide_eq_true_eq]
  exact ⟨a, by omega⟩

/-! ### answers -/
inductive Slot where
  | no | t (x : Tr) | live (ts : List Tr) | vv (v : V) | pu
abbrev Env := List Slot
inductive Dv where
  | t (x : Tr) | fr (ts : List Tr) | sl (i : Nat) | vv (v : V) | pu
inductive M (α : Type) where
  | ret (a : α) | draw (m : Int) (k : Int → M α) | rz (e : Env) (C : Addr) | bad
def M.bind {α β : Type} : M α → (α → M β) → M β
  | .ret a, k => k a
  | .draw m g, k => .draw m fun r => (g r).bind k
  | .rz e C, _ => .rz e C
  | .bad, _ => .bad
def wp {α : Type} : M α → Nat → (Nat → α → Prop) → (Nat → Env → Addr → Prop) → Prop
  | .ret a, n, P, _ => P n a
  | .draw m k, n, P, X => 1 ≤ n ∧ 1 ≤ m ∧ m ≤ 2 ^ 4000 ∧ ∀ r, 0 ≤ r → r < m → wp (k r) (n - 1) P X
  | .rz e C, n, _, X => X n e C
  | .bad, _, _, _ => False
theorem wp_bind {α β : Type} {k : α → M β} {P : Nat → β → Prop} {X : Nat → Env → Addr → Prop} : ∀ {m : M α} {n : Nat}, wp (m.bind k) n P X ↔ wp m n (fun n' a => wp (k a) n' P X) X
  | .ret a, n => Iff.rfl
  | .draw m g, n => by
    constructor
    · rintro ⟨a, b, c, d⟩
      exact ⟨a, b, c, fun r h0 h1 => wp_bind.mp (d r h0 h1)⟩
    · rintro ⟨a, b, c, d⟩
      exact ⟨a, b, c, fun r h0 h1 => wp_bind.mpr (d r h0 h1)⟩
  | .rz e C, n => Iff.rfl
  | .bad, n => Iff.rfl
theorem wp_mono {α : Type} {P R : Nat → α → Prop} {X Y : Nat → Env → Addr → Prop} (h : ∀ n a, P n a → R n a) (hx : ∀ n e C, X n e C → Y n e C) : ∀ {m : M α} {n : Nat}, wp m n P X → wp m n R Y
  | .ret a, n, q => h _ _ q
  | .draw m g, n, q => ⟨q.1, q.2.1, q.2.2.1, fun r h0 h1 => wp_mono h hx (q.2.2.2 r h0 h1)⟩
  | .rz e C, n, q => hx _ _ _ q
  | .bad, n, q => q
theorem wp_imp {α : Type} {P R : Nat → α → Prop} {X : Nat → Env → Addr → Prop} {m : M α} {n : Nat} (q : wp m n P X) (h : ∀ n a, P n a → R n a) : wp m n R X := wp_mono h (fun _ _ _ z => z) q
def wpb {α β : Type} {k : α → M β} {P : Nat → β → Prop} {X : Nat → Env → Addr → Prop} {m : M α} {n : Nat} (h : wp (m.bind k) n P X) : wp m n (fun n' a => wp (k a) n' P X) X := wp_bind.mp h
@[simp] theorem bind_ret {α β : Type} (a : α) (k : α → M β) : (M.ret a).bind k = k a := rfl
theorem bind_assoc {α β γ : Type} {k : α → M β} {l : β → M γ} : ∀ m : M α, (m.bind k).bind l = m.bind fun a => (k a).bind l
  | .ret a => rfl
  | .draw m g => by
    show M.draw m _ = M.draw m _
    congr 1
    funext r
    exact bind_assoc (g r)
  | .rz e C => rfl
  | .bad => rfl

/-! ### the frame -/
inductive RE (K : PySem.W.Frag) (f : Fx) (G : Hp) : St → Env → List (Addr × List En) → Prop where
  | nil : RE K f G [] [] []
  | no {v : Option V} {σ : St} {e : Env} {o : List (Addr × List En)} : RE K f G σ e o → RE K f G (v :: σ) (.no :: e) o
  | t {v : V} {x : Tr} {σ : St} {e : Env} {o : List (Addr × List En)} : Tp K G v x → RE K f G σ e o → RE K f G (some v :: σ) (.t x :: e) o
  | live {D : Addr} {ts : List Tr} {σ : St} {e : Env} {o : List (Addr × List En)} : RE K f G σ e o → RE K f G (some (.ref D) :: σ) (.live ts :: e) ((D, ts.map (enT K)) :: o)
  | vv {v : V} {σ : St} {e : Env} {o : List (Addr × List En)} : RE K f G σ e o → RE K f G (some v :: σ) (.vv v :: e) o
  | pu {p c : Addr} {σ : St} {e : Env} {o : List (Addr × List En)} : f.pu = some (p, c) → RE K f G σ e o → RE K f G (some (.ref p) :: σ) (.pu :: e) o
section
variable {K : PySem.W.Frag} {f : Fx} {G G' H H' : Hp} {n : Nat} {σ : St} {e : Env} {o tmp : List (Addr × List En)}
theorem RE.mono (x : Ex G G') (h : RE K f G σ e o) : RE K f G' σ e o := by
  induction h with
  | nil => exact .nil
  | no _ ih => exact .no ih
  | t a _ ih => exact .t (a.mono x) ih
  | live _ ih => exact .live ih
  | vv _ ih => exact .vv ih
  | pu a _ ih => exact .pu a ih
/-- the slot i anew -/
theorem RE.put (h : RE K f G σ e o) : ∀ (i : Nat), ∃ o1 o2, (∀ v, RE K f G (σ.set i v) (e.set i .no) (o1 ++ o2)) ∧ (∀ v x, Tp K G v x → RE K f G (σ.set i (some v)) (e.set i (.t x)) (o1 ++ o2)) ∧ (∀ v, RE K f G (σ.set i (some v)) (e.set i (.vv v)) (o1 ++ o2)) ∧
    (∀ p c, f.pu = some (p, c) → RE K f G (σ.set i (some (.ref p))) (e.set i .pu) (o1 ++ o2)) ∧ (i < e.length → ∀ D ts, RE K f G (σ.set i (some (.ref D))) (e.set i (.live ts)) (o1 ++ (D, ts.map (enT K)) :: o2)) ∧ ((∀ ts, e[i]? ≠ some (.live ts)) → o = o1 ++ o2) ∧
    (∀ ts, e[i]? = some (.live ts) → ∃ D, σ[i]? = some (some (.ref D)) ∧ o = o1 ++ (D, ts.map (enT K)) :: o2) := by
  induction h with
  | nil => exact fun i => ⟨[], [], fun v => .nil, fun v x _ => .nil, fun v => .nil, fun p c _ => .nil, fun z => absurd z (Nat.not_lt_zero _), fun _ => rfl, fun ts z => by simp at z⟩
  | no h ih =>
    rintro (_ | i)
    · rename_i o
      exact ⟨[], o, fun v => .no h, fun v x q => .t q h, fun v => .vv h, fun p c q => .pu q h, fun _ D ts => .live h, fun _ => rfl, fun ts z => by simp at z⟩
    · obtain ⟨o1, o2, h1, h2, h3, h4, h5, h6, h7⟩ := ih i
      exact ⟨o1, o2, fun v => .no (h1 v), fun v x q => .no (h2 v x q), fun v => .no (h3 v), fun p c q => .no (h4 p c q), fun z D ts => .no (h5 (by simpa using z) D ts), fun z => h6 (by simpa using z), fun ts z => h7 ts (by simpa using z)⟩
  | t a h ih =>
    rintro (_ | i)
    · rename_i o
      exact ⟨[], o, fun v => .no h, fun v x q => .t q h, fun v => .vv h, fun p c q => .pu q h, fun _ D ts => .live h, fun _ => rfl, fun ts z => by simp at z⟩
    · obtain ⟨o1, o2, h1, h2, h3, h4, h5, h6, h7⟩ := ih i
      exact ⟨o1, o2, fun v => .t a (h1 v), fun v x q => .t a (h2 v x q), fun v => .t a (h3 v), fun p c q => .t a (h4 p c q), fun z D ts => .t a (h5 (by simpa using z) D ts), fun z => h6 (by simpa using z), fun ts z => h7 ts (by simpa using z)⟩
  | @live D0 ts0 _ _ _ h ih =>
    rintro (_ | i)
    · rename_i o
      exact ⟨[], o, fun v => .no h, fun v x q => .t q h, fun v => .vv h, fun p c q => .pu q h, fun _ D ts => .live h, fun z => absurd rfl (z _), fun ts z => by
        simp only [List.getElem?_cons_zero, Option.some.injEq, Slot.live.injEq] at z
        subst z
        exact ⟨_, rfl, rfl⟩⟩
    · obtain ⟨o1, o2, h1, h2, h3, h4, h5, h6, h7⟩ := ih i
      exact ⟨(D0, ts0.map (enT K)) :: o1, o2, fun v => .live (h1 v), fun v x q => .live (h2 v x q), fun v => .live (h3 v), fun p c q => .live (h4 p c q), fun z D ts => .live (h5 (by simpa using z) D ts), fun z => by rw [h6 (by simpa using z)]; rfl, fun ts z => by
        obtain ⟨D, a, b⟩ := h7 ts (by simpa using z)
        exact ⟨D, by simpa using a, by rw [b]; rfl⟩⟩
  | vv h ih =>
    rintro (_ | i)
    · rename_i o
      exact ⟨[], o, fun v => .no h, fun v x q => .t q h, fun v => .vv h, fun p c q => .pu q h, fun _ D ts => .live h, fun _ => rfl, fun ts z => by simp at z⟩
    · obtain ⟨o1, o2, h1, h2, h3, h4, h5, h6, h7⟩ := ih i
      exact ⟨o1, o2, fun v => .vv (h1 v), fun v x q => .vv (h2 v x q), fun v => .vv (h3 v), fun p c q => .vv (h4 p c q), fun z D ts => .vv (h5 (by simpa using z) D ts), fun z => h6 (by simpa using z), fun ts z => h7 ts (by simpa using z)⟩
  | pu a h ih =>
    rintro (_ | i)
    · rename_i o
      exact ⟨[], o, fun v => .no h, fun v x q => .t q h, fun v => .vv h, fun p c q => .pu q h, fun _ D ts => .live h, fun _ => rfl, fun ts z => by simp at z⟩
    · obtain ⟨o1, o2, h1, h2, h3, h4, h5, h6, h7⟩ := ih i
      exact ⟨o1, o2, fun v => .pu a (h1 v), fun v x q => .pu a (h2 v x q), fun v => .pu a (h3 v), fun p c q => .pu a (h4 p c q), fun z D ts => .pu a (h5 (by simpa using z) D ts), fun z => h6 (by simpa using z), fun ts z => h7 ts (by simpa using z)⟩
theorem RE.len (h : RE K f G σ e o) : σ.length = e.length := by
  induction h with
  | nil => rfl
  | no _ ih => simpa using ih
  | t _ _ ih => simpa using ih
  | live _ ih => simpa using ih
  | vv _ ih => simpa using ih
  | pu _ _ ih => simpa using ih
theorem RE.getT (h : RE K f G σ e o) : ∀ {i : Nat} {x : Tr}, e[i]? = some (.t x) → ∃ v, σ[i]? = some (some v) ∧ Tp K G v x := by
  induction h with
  | nil => intro i x z; simp at z
  | t a h ih =>
    rintro (_ | i) x z
    · simp only [List.getElem?_cons_zero, Option.some.injEq, Slot.t.injEq] at z
      subst z
      exact ⟨_, rfl, a⟩
    · simpa using ih (by simpa using z)
  | no h ih => rintro (_ | i) x z; · simp at z
               · simpa using ih (by simpa using z)
  | live h ih => rintro (_ | i) x z; · simp at z
                 · simpa using ih (by simpa using z)
  | vv h ih => rintro (_ | i) x z; · simp at z
               · simpa using ih (by simpa using z)
  | pu a h ih => rintro (_ | i) x z; · simp at z
                 · simpa using ih (by simpa using z)
theorem RE.getV (h : RE K f G σ e o) : ∀ {i : Nat} {x : V}, e[i]? = some (.vv x) → σ[i]? = some (some x) := by
  induction h with
  | nil => intro i x z; simp at z
  | vv h ih =>
    rintro (_ | i) x z
    · simp only [List.getElem?_cons_zero, Option.some.injEq, Slot.vv.injEq] at z
      subst z
      rfl
    · simpa using ih (by simpa using z)
  | no h ih => rintro (_ | i) x z; · simp at z
               · simpa using ih (by simpa using z)
  | live h ih => rintro (_ | i) x z; · simp at z
                 · simpa using ih (by simpa using z)
  | t a h ih => rintro (_ | i) x z; · simp at z
                · simpa using ih (by simpa using z)
  | pu a h ih => rintro (_ | i) x z; · simp at z
                 · simpa using ih (by simpa using z)
theorem RE.getP (h : RE K f G σ e o) : ∀ {i : Nat}, e[i]? = some .pu → ∃ p c, f.pu = some (p, c) ∧ σ[i]? = some (some (.ref p)) := by
  induction h with
  | nil => intro i z; simp at z
  | pu a h ih =>
    rintro (_ | i) z
    · exact ⟨_, _, a, rfl⟩
    · simpa using ih (by simpa using z)
  | no h ih => rintro (_ | i) z; · simp at z
               · simpa using ih (by simpa using z)
  | live h ih => rintro (_ | i) z; · simp at z
                 · simpa using ih (by simpa using z)
  | t a h ih => rintro (_ | i) z; · simp at z
                · simpa using ih (by simpa using z)
  | vv h ih => rintro (_ | i) z; · simp at z
               · simpa using ih (by simpa using z)
theorem jperm {r r' : List (Addr × List En)} (j : J K f ⟨n, r⟩ G H) (p : r.Perm r') : J K f ⟨n, r'⟩ G H :=
  ⟨j.ex, fun D es m => j.own D es (p.mem_iff.mpr m), (p.map (·.1)).nodup_iff.mp j.nd, j.pu, j.fr, j.g0, j.fs, j.tf⟩
def Sem (K : PySem.W.Frag) (f : Fx) (n : Nat) (tmp : List (Addr × List En)) (e : Env) (G H : Hp) (σ : St) : Prop := ∃ o, RE K f G σ e o ∧ J K f ⟨n, tmp ++ o⟩ G H
/-- what values on the way are; tm: the new lists among them -/
inductive DsOk (K : PySem.W.Frag) (f : Fx) (G : Hp) (σ : St) : List Dv → List V → List (Addr × List En) → Prop where
  | nil : DsOk K f G σ [] [] []
  | t {v : V} {x : Tr} {ds : List Dv} {vs : List V} {tm : List (Addr × List En)} : Tp K G v x → DsOk K f G σ ds vs tm → DsOk K f G σ (.t x :: ds) (v :: vs) tm
  | fr {D : Addr} {ts : List Tr} {ds : List Dv} {vs : List V} {tm : List (Addr × List En)} : DsOk K f G σ ds vs tm → DsOk K f G σ (.fr ts :: ds) (.ref D :: vs) ((D, ts.map (enT K)) :: tm)
  | sl {i : Nat} {v : V} {ds : List Dv} {vs : List V} {tm : List (Addr × List En)} : σ[i]? = some (some v) → DsOk K f G σ ds vs tm → DsOk K f G σ (.sl i :: ds) (v :: vs) tm
  | vv {v : V} {ds : List Dv} {vs : List V} {tm : List (Addr × List En)} : DsOk K f G σ ds vs tm → DsOk K f G σ (.vv v :: ds) (v :: vs) tm
  | pu {p c : Addr} {ds : List Dv} {vs : List V} {tm : List (Addr × List En)} : f.pu = some (p, c) → DsOk K f G σ ds vs tm → DsOk K f G σ (.pu :: ds) (.ref p :: vs) tm
def SVs (K : PySem.W.Frag) (f : Fx) (n : Nat) (tmp : List (Addr × List En)) (e : Env) (G H : Hp) (σ : St) (ds : List Dv) (vs : List V) : Prop := ∃ tm, DsOk K f G σ ds vs tm ∧ Sem K f n (tm ++ tmp) e G H σ
abbrev SV (K : PySem.W.Frag) (f : Fx) (n : Nat) (tmp : List (Addr × List En)) (e : Env) (G H : Hp) (σ : St) (d : Dv) (v : V) : Prop := SVs K f n tmp e G H σ [d] [v]
def XW (K : PySem.W.Frag) (f : Fx) (W : WX) (X : Nat → Env → Addr → Prop) : Prop := ∀ n tmp e G H σ C d, Sem K f n tmp e G H σ → X n e C → XO G C d → W (.ref (xCls C)) d σ H
/-- an expression's, arguments', operation's meaning -/
def SE (K : PySem.W.Frag) (f : Fx) (W : WX) (te : TE) (m : Env → M (Env × Dv)) : Prop :=
  ∀ n tmp e G H σ (Q : VK) X, Sem K f n tmp e G H σ → XW K f W X → wp (m e) n (fun n' r => ∀ v G' H', Ex G G' → SV K f n' tmp r.1 G' H' σ r.2 v → Q v H') X → te σ H Q
def SA (K : PySem.W.Frag) (f : Fx) (W : WX) (ta : TA) (m : Env → M (Env × List Dv)) : Prop :=
  ∀ n tmp e G H σ (Q : List V → Hp → Prop) X, Sem K f n tmp e G H σ → XW K f W X → wp (m e) n (fun n' r => ∀ vs G' H', Ex G G' → SVs K f n' tmp r.1 G' H' σ r.2 vs → Q vs H') X → ta σ H Q
def ST (K : PySem.W.Frag) (f : Fx) (W : WX) (tt : TT) (m : Env → M (Env × Bool)) : Prop :=
  ∀ n tmp e G H σ (Q : Bool → Hp → Prop) X, Sem K f n tmp e G H σ → XW K f W X → wp (m e) n (fun n' r => ∀ G' H', Ex G G' → Sem K f n' tmp r.1 G' H' σ → Q r.2 H') X → tt σ H Q
def OS (K : PySem.W.Frag) (f : Fx) (W : WX) (rr : St → List V → Hp → VK → Prop) (m : Env → List Dv → M (Env × Dv)) : Prop :=
  ∀ n tmp e G H σ ds vs (Q : VK) X, SVs K f n tmp e G H σ ds vs → XW K f W X → wp (m e ds) n (fun n' r => ∀ v G' H', Ex G G' → SV K f n' tmp r.1 G' H' σ r.2 v → Q v H') X → rr σ vs H Q
theorem Sem.mem (h : Sem K f n tmp e G H σ) : ∃ o, RE K f G σ e o ∧ J K f ⟨n, tmp ++ o⟩ G H := h
theorem sv_t {x : Tr} {v : V} (s : Sem K f n tmp e G H σ) (h : Tp K G v x) : SV K f n tmp e G H σ (.t x) v := ⟨[], .t h .nil, s⟩
theorem sv_t_iff {x : Tr} {v : V} : SV K f n tmp e G H σ (.t x) v ↔ Tp K G v x ∧ Sem K f n tmp e G H σ := by
  constructor
  · rintro ⟨tm, h, s⟩
    cases h with
    | t a b =>
      cases b
      exact ⟨a, s⟩
  · rintro ⟨a, s⟩
    exact sv_t s a
theorem DsOk.mono {ds : List Dv} {vs : List V} {tm : List (Addr × List En)} (x : Ex G G') (h : DsOk K f G σ ds vs tm) : DsOk K f G' σ ds vs tm := by
  induction h with
  | nil => exact .nil
  | t a _ ih => exact .t (a.mono x) ih
  | fr _ ih => exact .fr ih
  | sl a _ ih => exact .sl a ih
  | vv _ ih => exact .vv ih
  | pu a _ ih => exact .pu a ih
theorem DsOk.cat {ds ds2 : List Dv} {vs vs2 : List V} {tm tm2 : List (Addr × List En)} (h : DsOk K f G σ ds vs tm) (h2 : DsOk K f G σ ds2 vs2 tm2) : DsOk K f G σ (ds ++ ds2) (vs ++ vs2) (tm ++ tm2) := by
  induction h with
  | nil => exact h2
  | t a _ ih => exact .t a ih
  | fr _ ih => exact .fr ih
  | sl a _ ih => exact .sl a ih
  | vv _ ih => exact .vv ih
  | pu a _ ih => exact .pu a ih
end
/-! ### arguments -/
def aNil : Env → M (Env × List Dv) := fun e => .ret (e, [])
def aCons (a : Env → M (Env × Dv)) (r : Env → M (Env × List Dv)) : Env → M (Env × List Dv) := fun e => (a e).bind fun p => (r p.1).bind fun q => .ret (q.1, p.2 :: q.2)
section
variable {K : PySem.W.Frag} {f : Fx} {W : WX}
theorem sa_nil : SA K f W tNil aNil := fun n tmp e G H σ Q X s _ w => w [] G H (Ex.refl G) ⟨[], .nil, s⟩
theorem sa_cons {ta : TE} {tr : TA} {a : Env → M (Env × Dv)} {r : Env → M (Env × List Dv)} (ha : SE K f W ta a) (hr : SA K f W tr r) : SA K f W (tCons ta tr) (aCons a r) := fun n tmp e G H σ Q X s xw w => by
  refine ha n tmp e G H σ _ X s xw (wp_imp (wpb w) fun n1 p w1 v G1 H1 x1 sv => ?_)
  obtain ⟨tm, dk, s1⟩ := sv
  refine hr n1 (tm ++ tmp) p.1 G1 H1 σ _ X s1 xw (wp_imp (wpb w1) fun n2 q w2 vs G2 H2 x2 svs => ?_)
  obtain ⟨tm2, dk2, o, re, jj⟩ := svs
  refine w2 (v :: vs) G2 H2 (x1.trans x2) ⟨tm ++ tm2, (dk.mono x2).cat dk2, o, re, jperm jj ?_⟩
  refine List.Perm.append_right o ?_
  show (tm2 ++ (tm ++ tmp)).Perm (tm ++ tm2 ++ tmp)
  rw [← List.append_assoc]
  exact List.Perm.append_right tmp List.perm_append_comm
/-- operations over arguments -/
def evO (o : Env → List Dv → M (Env × Dv)) (a : Env → M (Env × List Dv)) : Env → M (Env × Dv) := fun e => (a e).bind fun p => o p.1 p.2
theorem se_args {te : TE} {ta : TA} {rr : St → List V → Hp → VK → Prop} {o : Env → List Dv → M (Env × Dv)} {a : Env → M (Env × List Dv)} (hte : ∀ σ H Q, ta σ H (fun vs H1 => rr σ vs H1 Q) → te σ H Q) (ha : SA K f W ta a) (ho : OS K f W rr o) : SE K f W te (evO o a) := fun n tmp e G H σ Q X s xw w =>
  hte σ H Q (ha n tmp e G H σ _ X s xw (wp_imp (wpb w) fun n1 p w1 vs G1 H1 x1 svs => ho n1 tmp p.1 G1 H1 σ p.2 vs Q X svs xw (wp_imp w1 fun n2 r w2 v G2 H2 x2 sv => w2 v G2 H2 (x1.trans x2) sv)))
theorem se_op {r : R2} {ta tb : TE} {a b : Env → M (Env × Dv)} {o : Env → List Dv → M (Env × Dv)} (ha : SE K f W ta a) (hb : SE K f W tb b) (ho : OS K f W (fun _ vs H Q => ∃ x y, vs = [x, y] ∧ r x y H Q) o) : SE K f W (tOp r ta tb) (evO o (aCons a (aCons b aNil))) := by
  refine se_args (rr := fun _ vs H Q => ∃ x y, vs = [x, y] ∧ r x y H Q) (ta := tCons ta (tCons tb tNil)) (fun σ H Q h => ?_) (sa_cons ha (sa_cons hb sa_nil)) ho
  have e1 : ∀ (R R' : V → Hp → Prop), (∀ v H, R v H → R' v H) → True := fun _ _ _ => trivial
  have : (tCons ta (tCons tb tNil)) σ H (fun vs H1 => ∃ x y, vs = [x, y] ∧ r x y H1 Q) = (ta σ H fun x H1 => tb σ H1 fun y H2 => ∃ x' y', [x, y] = [x', y'] ∧ r x' y' H2 Q) := rfl
  rw [this] at h
  have e2 : ∀ x y H2, (∃ x' y', [x, y] = [x', y'] ∧ r x' y' H2 Q) = r x y H2 Q := fun x y H2 => propext ⟨fun ⟨x', y', q, h⟩ => by cases q; exact h, fun h => ⟨x, y, rfl, h⟩⟩
  simp only [e2] at h
  exact h
theorem se_un {r : V → Hp → VK → Prop} {ta : TE} {a : Env → M (Env × Dv)} {o : Env → List Dv → M (Env × Dv)} (ha : SE K f W ta a) (ho : OS K f W (fun _ vs H Q => ∃ x, vs = [x] ∧ r x H Q) o) : SE K f W (tUn r ta) (evO o (aCons a aNil)) := by
  refine se_args (rr := fun _ vs H Q => ∃ x, vs = [x] ∧ r x H Q) (ta := tCons ta tNil) (fun σ H Q h => ?_) (sa_cons ha sa_nil) ho
  have : (tCons ta tNil) σ H (fun vs H1 => ∃ x, vs = [x] ∧ r x H1 Q) = (ta σ H fun x H1 => ∃ x', [x] = [x'] ∧ r x' H1 Q) := rfl
  rw [this] at h
  have e2 : ∀ x H2, (∃ x', [x] = [x'] ∧ r x' H2 Q) = r x H2 Q := fun x H2 => propext ⟨fun ⟨x', q, h⟩ => by cases q; exact h, fun h => ⟨x, rfl, h⟩⟩
  simp only [e2] at h
  exact h
theorem se_cb {rr : List V → Hp → VK → Prop} {ta : TA} {a : Env → M (Env × List Dv)} {o : Env → List Dv → M (Env × Dv)} (ha : SA K f W ta a) (ho : OS K f W (fun _ => rr) o) : SE K f W (tCB rr ta) (evO o a) :=
  se_args (rr := fun _ => rr) (fun σ H Q h => h) ha ho
/-! ### names, constants -/
def eVar (i : Nat) : Env → M (Env × Dv) := fun e => match e[i]? with
  | some (.t x) => .ret (e, .t x)
  | some (.live _) => .ret (e, .sl i)
  | some (.vv v) => .ret (e, .vv v)
  | some .pu => .ret (e, .pu)
  | _ => .bad
theorem se_var {i : Nat} : SE K f W (tVar i) (eVar i) := fun n tmp e G H σ Q X s xw w => by
  obtain ⟨o, re, jj⟩ := s
  unfold eVar at w
  split at w
  · rename_i x q
    obtain ⟨v, q1, q2⟩ := re.getT q
    exact ⟨v, q1, w v G H (Ex.refl G) ⟨[], .t q2 .nil, o, re, jj⟩⟩
  · rename_i ts q
    obtain ⟨o1, o2, _, _, _, _, _, _, h7⟩ := re.put i
    obtain ⟨D, q1, _⟩ := h7 ts q
    exact ⟨_, q1, w _ G H (Ex.refl G) ⟨[], .sl q1 .nil, o, re, jj⟩⟩
  · rename_i v q
    exact ⟨v, re.getV q, w v G H (Ex.refl G) ⟨[], .vv .nil, o, re, jj⟩⟩
  · rename_i q
    obtain ⟨p, c, q1, q2⟩ := re.getP q
    exact ⟨_, q2, w _ G H (Ex.refl G) ⟨[], .pu q1 .nil, o, re, jj⟩⟩
  · exact w.elim
def eT (x : Tr) : Env → M (Env × Dv) := fun e => .ret (e, .t x)
def eV (v : V) : Env → M (Env × Dv) := fun e => .ret (e, .vv v)
theorem se_t {v : V} {x : Tr} (h : ∀ G, Tp K G v x) : SE K f W (tC v) (eT x) := fun n tmp e G H σ Q X s xw w => w v G H (Ex.refl G) (sv_t s (h G))
theorem se_int {i : Int} : SE K f W (tC (.int i)) (eT (.int i)) := se_t fun _ => .int i
theorem se_str {i : Str} : SE K f W (tC (.str i)) (eT (.str i)) := se_t fun _ => .str i
theorem se_bl {i : Bool} : SE K f W (tC (.bl i)) (eT (.bl i)) := se_t fun _ => .bl i
theorem se_non : SE K f W (tC .non) (eT .non) := se_t fun _ => .non
theorem se_v {v : V} : SE K f W (tC v) (eV v) := fun n tmp e G H σ Q X s xw w => w v G H (Ex.refl G) ⟨[], .vv .nil, s⟩
end
end Ev

namespace Ev
open PySem L2 Evl Dl
section
variable {K : PySem.W.Frag} {f : Fx} {W : WX} {G G' H H' : Hp} {n : Nat} {σ : St} {e : Env} {o r tm tmp : List (Addr × List En)} {ds : List Dv} {vs : List V}
theorem jsub {r' : List (Addr × List En)} (j : J K f ⟨n, r⟩ G H) (s : r'.Sublist r) : J K f ⟨n, r'⟩ G H :=
  ⟨j.ex, fun D es m => j.own D es (s.subset m), (s.map (·.1)).nodup j.nd, j.pu, j.fr, j.g0, j.fs, j.tf⟩
theorem Sem.drop (h : Sem K f n (tm ++ tmp) e G H σ) : Sem K f n tmp e G H σ := by
  obtain ⟨o, re, j⟩ := h
  exact ⟨o, re, jsub j (by rw [List.append_assoc]; exact List.sublist_append_right _ _)⟩
theorem own_tp {D : Addr} {ts : List Tr} (j : J K f ⟨n, r⟩ G H) (m : (D, ts.map (enT K)) ∈ r) : ∃ xs, H D = some (.lst xs) ∧ TpAll K G xs ts := by
  obtain ⟨_, _, _, xs, h, v⟩ := j.own D _ m
  exact ⟨xs, h, vs_enT v⟩
/-! ### looking at values, without a change -/
def view (e : Env) : Dv → Option Tr
  | .t x => some x
  | .fr ts => some (.lst ts)
  | .sl i => match e[i]? with
    | some (.live ts) => some (.lst ts)
    | some (.t x) => some x
    | _ => none
  | _ => none
def views (e : Env) : List Dv → Option (List Tr)
  | [] => some []
  | d :: ds => match view e d, views e ds with
    | some x, some xs => some (x :: xs)
    | _, _ => none
/-- a slot's value is the list that is owned -/
theorem RE.own {i : Nat} {ts : List Tr} {v : V} (re : RE K f G σ e o) (hi : e[i]? = some (.live ts)) (hv : σ[i]? = some (some v)) : ∃ D, v = .ref D ∧ (D, ts.map (enT K)) ∈ o := by
  obtain ⟨o1, o2, _, _, _, _, _, _, h7⟩ := re.put i
  obtain ⟨D, q1, q2⟩ := h7 ts hi
  rw [hv] at q1
  cases q1
  exact ⟨D, rfl, by rw [q2]; simp⟩
theorem view_tp {d : Dv} {v : V} {x : Tr} (re : RE K f G σ e o) (j : J K f ⟨n, r⟩ G H) (ho : ∀ a ∈ o, a ∈ r) (hd : DsOk K f G σ [d] [v] tm) (ht : ∀ a ∈ tm, a ∈ r) (h : view e d = some x) : Tp K H v x := by
  cases hd with
  | t a b =>
    cases h
    exact a.mono j.ex
  | fr b =>
    cases h
    cases b
    obtain ⟨xs, q1, q2⟩ := own_tp j (ht _ (List.mem_cons_self ..))
    exact .lst q1 (q2.mono j.ex)
  | @sl i _ _ _ _ a b =>
    unfold view at h
    cases q : e[i]? with
    | none => simp [q] at h
    | some y =>
      cases y with
      | live ts =>
        simp only [q, Option.some.injEq] at h
        subst h
        obtain ⟨D, rfl, m⟩ := re.own q a
        obtain ⟨xs, q1, q2⟩ := own_tp j (ho _ m)
        exact .lst q1 (q2.mono j.ex)
      | t y =>
        simp only [q, Option.some.injEq] at h
        subst h
        obtain ⟨u, q1, q2⟩ := re.getT q
        rw [a] at q1
        cases q1
        exact q2.mono j.ex
      | no => simp [q] at h
      | vv _ => simp [q] at h
      | pu => simp [q] at h
  | vv b => cases h
  | pu a b => cases h
theorem DsOk.split {d : Dv} {v : V} (h : DsOk K f G σ (d :: ds) (v :: vs) tm) : ∃ t1 t2, tm = t1 ++ t2 ∧ DsOk K f G σ [d] [v] t1 ∧ DsOk K f G σ ds vs t2 := by
  cases h with
  | t a b => exact ⟨[], _, rfl, .t a .nil, b⟩
  | fr b => exact ⟨[_], _, rfl, .fr .nil, b⟩
  | sl a b => exact ⟨[], _, rfl, .sl a .nil, b⟩
  | vv b => exact ⟨[], _, rfl, .vv .nil, b⟩
  | pu a b => exact ⟨[], _, rfl, .pu a .nil, b⟩
theorem DsOk.len (h : DsOk K f G σ ds vs tm) : ds.length = vs.length := by
  induction h with
  | nil => rfl
  | t _ _ ih => simpa using ih
  | fr _ ih => simpa using ih
  | sl _ _ ih => simpa using ih
  | vv _ ih => simpa using ih
  | pu _ _ ih => simpa using ih
theorem views_tp (re : RE K f G σ e o) (j : J K f ⟨n, r⟩ G H) (ho : ∀ a ∈ o, a ∈ r) : ∀ {ds : List Dv} {vs : List V} {tm : List (Addr × List En)} {xs : List Tr}, DsOk K f G σ ds vs tm → (∀ a ∈ tm, a ∈ r) → views e ds = some xs → TpAll K H vs xs
  | [], [], _, _, _, _, h => by cases h; exact .nil
  | [], _ :: _, _, _, hd, _, _ => by cases hd
  | _ :: _, [], _, _, hd, _, _ => by cases hd
  | d :: ds, v :: vs, tm, xs, hd, ht, h => by
    obtain ⟨t1, t2, rfl, h1, h2⟩ := hd.split
    unfold views at h
    cases q1 : view e d with
    | none => simp [q1] at h
    | some x =>
      cases q2 : views e ds with
      | none => simp [q1, q2] at h
      | some ys =>
        simp only [q1, q2, Option.some.injEq] at h
        subst h
        exact .cons (view_tp re j ho h1 (fun a m => ht a (List.mem_append_left _ m)) q1) (views_tp re j ho h2 (fun a m => ht a (List.mem_append_right _ m)) q2)
theorem sem_sub {o : List (Addr × List En)} : (∀ a ∈ o, a ∈ tm ++ tmp ++ o) ∧ ∀ a ∈ tm, a ∈ tm ++ tmp ++ o := ⟨fun a m => List.mem_append_right _ m, fun a m => List.mem_append_left _ (List.mem_append_left _ m)⟩
theorem svs_views {xs : List Tr} (h : SVs K f n tmp e G H σ ds vs) (q : views e ds = some xs) : TpAll K H vs xs ∧ Sem K f n tmp e G H σ := by
  obtain ⟨tm, dk, o, re, j⟩ := h
  exact ⟨views_tp re j sem_sub.1 dk sem_sub.2 q, Sem.drop ⟨o, re, j⟩⟩
/-- the things of a list or a tuple, in the data's own heap -/
def seqv (e : Env) : Dv → Option (Bool × List Tr)
  | .t (.lst ts) => some (false, ts)
  | .t (.tup ts) => some (true, ts)
  | .fr ts => some (false, ts)
  | .sl i => match e[i]? with
    | some (.live ts) => some (false, ts)
    | some (.t (.lst ts)) => some (false, ts)
    | some (.t (.tup ts)) => some (true, ts)
    | _ => none
  | _ => none
def SqB (K : PySem.W.Frag) (H : Hp) (b : Bool) (a : Addr) (xs : List V) : Prop := if b = true then SqT K H a xs else H a = some (.lst xs)
theorem SqB.mono {b : Bool} {a : Addr} {xs : List V} (x : Ex H H') (h : SqB K H b a xs) : SqB K H' b a xs := by
  cases b with
  | true => exact ex_t x h
  | false => exact x _ _ h
theorem seqv_tp {d : Dv} {v : V} {b : Bool} {ts : List Tr} (re : RE K f G σ e o) (j : J K f ⟨n, r⟩ G H) (ho : ∀ a ∈ o, a ∈ r) (hd : DsOk K f G σ [d] [v] tm) (ht : ∀ a ∈ tm, a ∈ r) (h : seqv e d = some (b, ts)) :
    ∃ a xs, v = .ref a ∧ SqB K H b a xs ∧ TpAll K G xs ts := by
  have tt : ∀ {v : V} {x : Tr}, Tp K G v x → (∀ ts, x = .lst ts → ∃ a xs, v = .ref a ∧ SqB K H false a xs ∧ TpAll K G xs ts) ∧ ∀ ts, x = .tup ts → ∃ a xs, v = .ref a ∧ SqB K H true a xs ∧ TpAll K G xs ts := fun {v x} q => by
    refine ⟨fun ts z => ?_, fun ts z => ?_⟩
    · subst z
      cases q with
      | lst s a => exact ⟨_, _, rfl, j.ex _ _ s, a⟩
    · subst z
      cases q with
      | tup s a => exact ⟨_, _, rfl, ex_t j.ex s, a⟩
  cases hd with
  | t a _ =>
    unfold seqv at h
    split at h
    · rename_i z; cases z; cases h; exact (tt a).1 _ rfl
    · rename_i z; cases z; cases h; exact (tt a).2 _ rfl
    · rename_i z; cases z
    · rename_i z; cases z
    · cases h
  | fr b =>
    cases h
    cases b
    obtain ⟨xs, q1, q2⟩ := own_tp j (ht _ (List.mem_cons_self ..))
    exact ⟨_, xs, rfl, q1, q2⟩
  | @sl i _ _ _ _ a _ =>
    unfold seqv at h
    cases q : e[i]? with
    | none => simp [q] at h
    | some y =>
      cases y with
      | live ts' =>
        simp only [q, Option.some.injEq, Prod.mk.injEq] at h
        obtain ⟨rfl, rfl⟩ := h
        obtain ⟨D, rfl, m⟩ := re.own q a
        obtain ⟨xs, q1, q2⟩ := own_tp j (ho _ m)
        exact ⟨_, xs, rfl, q1, q2⟩
      | t y =>
        obtain ⟨u, q1, q2⟩ := re.getT q
        rw [a] at q1
        cases q1
        cases y with
        | lst ts' =>
          simp only [q, Option.some.injEq, Prod.mk.injEq] at h
          obtain ⟨rfl, rfl⟩ := h
          exact (tt q2).1 _ rfl
        | tup ts' =>
          simp only [q, Option.some.injEq, Prod.mk.injEq] at h
          obtain ⟨rfl, rfl⟩ := h
          exact (tt q2).2 _ rfl
        | non => simp [q] at h
        | bl _ => simp [q] at h
        | int _ => simp [q] at h
        | str _ => simp [q] at h
        | exc _ => simp [q] at h
        | obj _ _ _ => simp [q] at h
      | no => simp [q] at h
      | vv _ => simp [q] at h
      | pu => simp [q] at h
  | vv b => cases h
  | pu a b => cases h
/-! ### values that become data -/
def forceD (e : Env) : Dv → Option (Env × Tr)
  | .t x => some (e, x)
  | .fr ts => some (e, .lst ts)
  | .sl i => match e[i]? with
    | some (.live ts) => some (e.set i (.t (.lst ts)), .lst ts)
    | some (.t x) => some (e, x)
    | _ => none
  | _ => none
theorem set_self {i : Nat} {v : Option V} {σ : St} (h : σ[i]? = some v) : σ.set i v = σ := by
  apply List.ext_getElem?
  intro k
  rw [List.getElem?_set]
  split
  · rename_i q
    subst q
    split
    · exact h.symm
    · rename_i z
      rw [List.getElem?_eq_none (by omega)] at h
      cases h
  · rfl
theorem jend {D : Addr} {ts : List Tr} (j : J K f ⟨n, (D, ts.map (enT K)) :: r⟩ G H) : ∃ G', Ex G G' ∧ J K f ⟨n, r⟩ G' H ∧ Tp K G' (.ref D) (.lst ts) := by
  obtain ⟨xs, j2, v, hg, hx⟩ := j.ownEnd
  have eg : Ex G (upd G D (.lst xs)) := Ex.new hg
  exact ⟨_, eg, j2, .lst upd_same ((vs_enT v).mono eg)⟩
theorem freeze {i : Nat} {ts : List Tr} (s : Sem K f n tmp e G H σ) (h : e[i]? = some (.live ts)) : ∃ G' v, Ex G G' ∧ Sem K f n tmp (e.set i (.t (.lst ts))) G' H σ ∧ σ[i]? = some (some v) ∧ Tp K G' v (.lst ts) := by
  obtain ⟨o, re, j⟩ := s
  obtain ⟨o1, o2, _, h2, _, _, _, _, h7⟩ := re.put i
  obtain ⟨D, hD, rfl⟩ := h7 ts h
  have p : (tmp ++ (o1 ++ (D, ts.map (enT K)) :: o2)).Perm ((D, ts.map (enT K)) :: (tmp ++ (o1 ++ o2))) := by
    rw [← List.append_assoc, ← List.append_assoc]
    exact List.perm_middle
  obtain ⟨G', eg, j2, tp⟩ := jend (jperm j p)
  obtain ⟨a1, a2, _, b2, _, _, _, _, b7⟩ := (re.mono eg).put i
  obtain ⟨D', hD', he⟩ := b7 ts h
  rw [hD] at hD'
  cases hD'
  have q := b2 (.ref D) (.lst ts) tp
  rw [set_self hD] at q
  refine ⟨G', .ref D, eg, ⟨a1 ++ a2, q, jperm j2 (List.Perm.append_left tmp ?_)⟩, hD, tp⟩
  have p1 : ((D, ts.map (enT K)) :: (o1 ++ o2)).Perm ((D, ts.map (enT K)) :: (a1 ++ a2)) := List.perm_middle.symm.trans (by rw [he]; exact List.perm_middle)
  exact p1.cons_inv
theorem force_ok {d : Dv} {v : V} {e' : Env} {x : Tr} (h : SV K f n tmp e G H σ d v) (q : forceD e d = some (e', x)) : ∃ G', Ex G G' ∧ Sem K f n tmp e' G' H σ ∧ Tp K G' v x := by
  obtain ⟨tm, dk, s⟩ := h
  cases dk with
  | t a b =>
    cases b
    cases q
    exact ⟨G, Ex.refl G, s, a⟩
  | fr b =>
    cases b
    cases q
    obtain ⟨o, re, j⟩ := s
    obtain ⟨G', eg, j2, tp⟩ := jend (show J K f ⟨n, _ :: (tmp ++ o)⟩ G H from j)
    exact ⟨G', eg, ⟨o, re.mono eg, j2⟩, tp⟩
  | @sl i _ _ _ _ a b =>
    cases b
    unfold forceD at q
    cases z : e[i]? with
    | none => simp [z] at q
    | some y =>
      cases y with
      | live ts =>
        simp only [z, Option.some.injEq, Prod.mk.injEq] at q
        obtain ⟨rfl, rfl⟩ := q
        obtain ⟨G', u, eg, s2, q1, q2⟩ := freeze s z
        rw [a] at q1
        cases q1
        exact ⟨G', eg, s2, q2⟩
      | t y =>
        simp only [z, Option.some.injEq, Prod.mk.injEq] at q
        obtain ⟨rfl, rfl⟩ := q
        obtain ⟨o, re, j⟩ := s
        obtain ⟨u, q1, q2⟩ := re.getT z
        rw [a] at q1
        cases q1
        exact ⟨G, Ex.refl G, ⟨o, re, j⟩, q2⟩
      | no => simp [z] at q
      | vv _ => simp [z] at q
      | pu => simp [z] at q
  | vv b => cases q
  | pu a b => cases q
/-- arguments of a def -/
def slotD (e : Env) : Dv → Option (Env × Slot)
  | .vv v => some (e, .vv v)
  | .pu => some (e, .pu)
  | d => match forceD e d with
    | some (e', x) => some (e', .t x)
    | none => none
def slotsOf (e : Env) : List Dv → Option (Env × List Slot)
  | [] => some (e, [])
  | d :: ds => match slotD e d with
    | some (e', s) => match slotsOf e' ds with
      | some (e2, ss) => some (e2, s :: ss)
      | none => none
    | none => none
inductive AOk (K : PySem.W.Frag) (pu : Option (Addr × Addr)) (G : Hp) : List V → List Slot → Prop where
  | nil : AOk K pu G [] []
  | t {v : V} {x : Tr} {vs : List V} {ss : List Slot} : Tp K G v x → AOk K pu G vs ss → AOk K pu G (v :: vs) (.t x :: ss)
  | vv {v : V} {vs : List V} {ss : List Slot} : AOk K pu G vs ss → AOk K pu G (v :: vs) (.vv v :: ss)
  | pu {p c : Addr} {vs : List V} {ss : List Slot} : pu = some (p, c) → AOk K pu G vs ss → AOk K pu G (.ref p :: vs) (.pu :: ss)
theorem AOk.mono {pu : Option (Addr × Addr)} {ss : List Slot} (x : Ex G G') (h : AOk K pu G vs ss) : AOk K pu G' vs ss := by
  induction h with
  | nil => exact .nil
  | t a _ ih => exact .t (a.mono x) ih
  | vv _ ih => exact .vv ih
  | pu a _ ih => exact .pu a ih
theorem slots_ok : ∀ {ds : List Dv} {vs : List V} {e e' : Env} {G : Hp} {tmp : List (Addr × List En)} {ss : List Slot}, SVs K f n tmp e G H σ ds vs → slotsOf e ds = some (e', ss) → ∃ G', Ex G G' ∧ Sem K f n tmp e' G' H σ ∧ AOk K f.pu G' vs ss
  | [], [], e, e', G, tmp, ss, h, q => by
    cases q
    obtain ⟨tm, dk, s⟩ := h
    cases dk
    exact ⟨G, Ex.refl G, s, .nil⟩
  | [], _ :: _, e, e', G, tmp, ss, h, q => by
    obtain ⟨tm, dk, s⟩ := h
    cases dk
  | _ :: _, [], e, e', G, tmp, ss, h, q => by
    obtain ⟨tm, dk, s⟩ := h
    cases dk
  | d :: ds, v :: vs, e, e', G, tmp, ss, h, q => by
    obtain ⟨tm, dk, s⟩ := h
    obtain ⟨t1, t2, rfl, h1, h2⟩ := dk.split
    have hs : SV K f n (t2 ++ tmp) e G H σ d v := ⟨t1, h1, by rw [← List.append_assoc]; exact s⟩
    unfold slotsOf at q
    cases q1 : slotD e d with
    | none => simp [q1] at q
    | some p =>
      obtain ⟨e1, s1⟩ := p
      cases q2 : slotsOf e1 ds with
      | none => simp [q1, q2] at q
      | some p2 =>
        obtain ⟨e2, ss2⟩ := p2
        simp only [q1, q2, Option.some.injEq, Prod.mk.injEq] at q
        obtain ⟨rfl, rfl⟩ := q
        have hh : (∃ x, s1 = .t x ∧ ∃ G1, Ex G G1 ∧ Sem K f n (t2 ++ tmp) e1 G1 H σ ∧ Tp K G1 v x) ∨ (s1 = .vv v ∧ Sem K f n (t2 ++ tmp) e1 G H σ) ∨ (s1 = .pu ∧ Sem K f n (t2 ++ tmp) e1 G H σ ∧ ∃ p c, f.pu = some (p, c) ∧ v = .ref p) := by
          have nf : ∀ x, forceD e d = some (e1, x) → s1 = .t x → (∃ x, s1 = .t x ∧ ∃ G1, Ex G G1 ∧ Sem K f n (t2 ++ tmp) e1 G1 H σ ∧ Tp K G1 v x) := fun x z z2 => by
            obtain ⟨G1, x1, x2, x3⟩ := force_ok hs z
            exact ⟨x, z2, G1, x1, x2, x3⟩
          have nf2 : (match forceD e d with | some (e', x) => some (e', Slot.t x) | none => none) = some (e1, s1) → (∃ x, s1 = .t x ∧ ∃ G1, Ex G G1 ∧ Sem K f n (t2 ++ tmp) e1 G1 H σ ∧ Tp K G1 v x) := fun z => by
            cases y : forceD e d with
            | none => simp [y] at z
            | some p =>
              simp only [y, Option.some.injEq, Prod.mk.injEq] at z
              exact nf p.2 (by rw [y, ← z.1]) z.2.symm
          cases d with
          | vv u =>
            cases q1
            cases h1 with
            | vv b =>
              cases b
              exact .inr (.inl ⟨rfl, s⟩)
          | pu =>
            cases q1
            cases h1 with
            | pu a b =>
              cases b
              exact .inr (.inr ⟨rfl, s, _, _, a, rfl⟩)
          | t x => exact .inl (nf2 q1)
          | fr x => exact .inl (nf2 q1)
          | sl x => exact .inl (nf2 q1)
        rcases hh with ⟨x, rfl, G1, x1, x2, x3⟩ | ⟨rfl, x2⟩ | ⟨rfl, x2, p, c, x3, rfl⟩
        · obtain ⟨G2, y1, y2, y3⟩ := slots_ok (vs := vs) ⟨t2, h2.mono x1, x2⟩ q2
          exact ⟨G2, x1.trans y1, y2, .t (x3.mono y1) y3⟩
        · obtain ⟨G2, y1, y2, y3⟩ := slots_ok (vs := vs) ⟨t2, h2, x2⟩ q2
          exact ⟨G2, y1, y2, .vv y3⟩
        · obtain ⟨G2, y1, y2, y3⟩ := slots_ok (vs := vs) ⟨t2, h2, x2⟩ q2
          exact ⟨G2, y1, y2, .pu x3 y3⟩
/-- all of them data -/
def trsOf : List Slot → Option (List Tr)
  | [] => some []
  | .t x :: r => match trsOf r with
    | some xs => some (x :: xs)
    | none => none
  | _ :: _ => none
theorem trs_ok {pu : Option (Addr × Addr)} {ss : List Slot} (h : AOk K pu G vs ss) : ∀ {xs : List Tr}, trsOf ss = some xs → TpAll K G vs xs := by
  induction h with
  | nil => intro xs q; cases q; exact .nil
  | t a _ ih =>
    intro xs q
    rename_i ss _
    cases z : trsOf ss with
    | none => simp [trsOf, z] at q
    | some ys =>
      simp only [trsOf, z, Option.some.injEq] at q
      subst q
      exact .cons a (ih z)
  | vv _ ih => intro xs q; cases q
  | pu _ _ ih => intro xs q; cases q
end
end Ev

namespace Ev
open PySem L2 Evl Dl
def smallI (j : Int) : Bool := decide (j.natAbs < 1000000000)
theorem smallI_iff {j : Int} : smallI j = true ↔ j.natAbs < 1000000000 := by unfold smallI; exact decide_eq_true_iff
/-! ### operations that only look, with a plain answer -/
def scalT : Tr → Bool
  | .non => true
  | .bl _ => true
  | .int _ => true
  | .str _ => true
  | _ => false
def vS : Tr → V
  | .bl b => .bl b
  | .int i => .int i
  | .str x => .str x
  | _ => .non
theorem tp_vS {K : PySem.W.Frag} {G : Hp} {z : Tr} (h : scalT z = true) : Tp K G (vS z) z := by
  cases z with
  | non => exact .non
  | bl b => exact .bl b
  | int i => exact .int i
  | str x => exact .str x
  | _ => cases h
def oPure (g : List Tr → Option Tr) : Env → List Dv → M (Env × Dv) := fun e ds => match views e ds with
  | some xs => match g xs with
    | some z => .ret (e, .t z)
    | none => .bad
  | none => .bad
section
variable {K : PySem.W.Frag} {f : Fx} {W : WX} {G G' H H' : Hp} {n : Nat} {σ : St} {e : Env} {o r tm tmp : List (Addr × List En)} {ds : List Dv} {vs : List V}
theorem os_pure {rr : St → List V → Hp → VK → Prop} {g : List Tr → Option Tr} (hz : ∀ xs z, g xs = some z → scalT z = true) (h : ∀ H σ vs xs z (Q : VK), TpAll K H vs xs → g xs = some z → Q (vS z) H → rr σ vs H Q) : OS K f W rr (oPure g) := fun n tmp e G H σ ds vs Q X s xw w => by
  unfold oPure at w
  cases q : views e ds with
  | none => simp [q] at w; exact w.elim
  | some xs =>
    cases q2 : g xs with
    | none => simp [q, q2] at w; exact w.elim
    | some z =>
      simp only [q, q2] at w
      obtain ⟨a, b⟩ := svs_views s q
      exact h H σ vs xs z Q a q2 (w (vS z) G H (Ex.refl G) (sv_t b (tp_vS (hz _ _ q2))))
/-! ### displays -/
def eTup (a : Env → M (Env × List Dv)) : Env → M (Env × Dv) := fun e => (a e).bind fun p => match slotsOf p.1 p.2 with
  | some (e2, ss) => match trsOf ss with
    | some ts => if ts.length ≤ 100000 then .ret (e2, .t (.tup ts)) else .bad
    | none => .bad
  | none => .bad
def eLst (a : Env → M (Env × List Dv)) : Env → M (Env × Dv) := fun e => (a e).bind fun p => match slotsOf p.1 p.2 with
  | some (e2, ss) => match trsOf ss with
    | some ts => if ts.length ≤ 100000 then .ret (e2, .fr ts) else .bad
    | none => .bad
  | none => .bad
theorem Sem.alloc {q : Addr} {ob : HO} (s : Sem K f n tmp e G H σ) (h : H q = none) (ho : okO ob) : Sem K f n tmp e (upd G q ob) (upd H q ob) σ ∧ Ex G (upd G q ob) := by
  obtain ⟨o, re, j⟩ := s
  have eg : Ex G (upd G q ob) := Ex.new (fresh_back j.ex h)
  exact ⟨⟨o, re.mono eg, j.alloc h ob ho⟩, eg⟩
theorem Sem.allocH {q : Addr} {ob : HO} (s : Sem K f n tmp e G H σ) (h : H q = none) : Sem K f n tmp e G (upd H q ob) σ := by
  obtain ⟨o, re, j⟩ := s
  exact ⟨o, re, j.allocH h ob⟩
theorem Sem.ownNew {q : Addr} {xs : List V} {ts : List Tr} (s : Sem K f n tmp e G H σ) (h : H q = none) (a : TpAll K G xs ts) : SV K f n tmp e G (upd H q (.lst xs)) σ (.fr ts) (.ref q) := by
  obtain ⟨o, re, j⟩ := s
  exact ⟨[(q, ts.map (enT K))], .fr .nil, o, re, j.ownNew h (vs_of a)⟩
theorem se_tup {ta : TA} {a : Env → M (Env × List Dv)} (ha : SA K f W ta a) : SE K f W (tTupF ta) (eTup a) := fun n tmp e G H σ Q X s xw w => by
  refine ha n tmp e G H σ _ X s xw (wp_imp (wpb w) fun n1 p w1 vs G1 H1 x1 svs => ?_)
  cases q : slotsOf p.1 p.2 with
  | none => simp [q] at w1; exact w1.elim
  | some z =>
    obtain ⟨e2, ss⟩ := z
    cases q2 : trsOf ss with
    | none => simp [q, q2] at w1; exact w1.elim
    | some ts =>
      simp only [q, q2] at w1
      obtain ⟨G2, x2, s2, ak⟩ := slots_ok svs q
      have al := trs_ok ak q2
      split at w1
      · rename_i hl
        refine ⟨sz_of (by rw [al.len]; exact hl), fun q ob ho hq => ?_⟩
        obtain ⟨s3, x3⟩ := s2.alloc (ob := .frz ob (.tup vs)) hq ho
        exact w1 _ _ _ ((x1.trans x2).trans x3) (sv_t s3 (.tup (st_frz upd_same) (al.mono x3)))
      · exact w1.elim
theorem se_lst {ta : TA} {a : Env → M (Env × List Dv)} (ha : SA K f W ta a) : SE K f W (tLst ta) (eLst a) := fun n tmp e G H σ Q X s xw w => by
  refine ha n tmp e G H σ _ X s xw (wp_imp (wpb w) fun n1 p w1 vs G1 H1 x1 svs => ?_)
  cases q : slotsOf p.1 p.2 with
  | none => simp [q] at w1; exact w1.elim
  | some z =>
    obtain ⟨e2, ss⟩ := z
    cases q2 : trsOf ss with
    | none => simp [q, q2] at w1; exact w1.elim
    | some ts =>
      simp only [q, q2] at w1
      obtain ⟨G2, x2, s2, ak⟩ := slots_ok svs q
      have al := trs_ok ak q2
      split at w1
      · rename_i hl
        refine ⟨sz_of (by rw [al.len]; exact hl), fun q hq => ?_⟩
        exact w1 _ G2 _ (x1.trans x2) (s2.ownNew hq al)
      · exact w1.elim
/-! ### tests -/
def tVal (m : Env → M (Env × Dv)) : Env → M (Env × Bool) := fun e => (m e).bind fun p => match p.2 with
  | .t (.bl b) => .ret (p.1, b)
  | _ => .bad
theorem st_test {te : TE} {m : Env → M (Env × Dv)} (h : SE K f W te m) : ST K f W (tTest te) (tVal m) := fun n tmp e G H σ Q X s xw w => by
  refine h n tmp e G H σ _ X s xw (wp_imp (wpb w) fun n1 p w1 v G1 H1 x1 sv => ?_)
  cases q : p.2 with
  | t x =>
    cases x with
    | bl b =>
      simp only [q] at w1
      rw [q] at sv
      obtain ⟨a, b⟩ := sv_t_iff.mp sv
      cases a
      exact ⟨_, rfl, w1 G1 H1 x1 b⟩
    | _ => simp only [q] at w1; exact w1.elim
  | _ => simp only [q] at w1; exact w1.elim
theorem st_B {te : TE} {m : Env → M (Env × Dv)} (h : SE K f W te m) : ST K f W (tB te) (tVal m) := st_test h
def tAndM (a b : Env → M (Env × Bool)) : Env → M (Env × Bool) := fun e => (a e).bind fun p => if p.2 = true then b p.1 else .ret (p.1, false)
def tOrM (a b : Env → M (Env × Bool)) : Env → M (Env × Bool) := fun e => (a e).bind fun p => if p.2 = true then .ret (p.1, true) else b p.1
def tNotM (a : Env → M (Env × Bool)) : Env → M (Env × Bool) := fun e => (a e).bind fun p => .ret (p.1, !p.2)
def tYesM : Env → M (Env × Bool) := fun e => .ret (e, true)
theorem st_yes : ST K f W tYes tYesM := fun n tmp e G H σ Q X s xw w => w G H (Ex.refl G) s
theorem st_and {ta tb : TT} {a b : Env → M (Env × Bool)} (ha : ST K f W ta a) (hb : ST K f W tb b) : ST K f W (tAnd ta tb) (tAndM a b) := fun n tmp e G H σ Q X s xw w => by
  refine ha n tmp e G H σ _ X s xw (wp_imp (wpb w) fun n1 p w1 G1 H1 x1 s1 => ?_)
  cases q : p.2 with
  | true =>
    rw [if_pos q] at w1
    exact hb n1 tmp p.1 G1 H1 σ Q X s1 xw (wp_imp w1 fun n2 r w2 G2 H2 x2 s2 => w2 G2 H2 (x1.trans x2) s2)
  | false =>
    rw [if_neg (by rw [q]; exact Bool.false_ne_true)] at w1
    exact w1 G1 H1 x1 s1
theorem st_or {ta tb : TT} {a b : Env → M (Env × Bool)} (ha : ST K f W ta a) (hb : ST K f W tb b) : ST K f W (tOr ta tb) (tOrM a b) := fun n tmp e G H σ Q X s xw w => by
  refine ha n tmp e G H σ _ X s xw (wp_imp (wpb w) fun n1 p w1 G1 H1 x1 s1 => ?_)
  cases q : p.2 with
  | true =>
    rw [if_pos q] at w1
    exact w1 G1 H1 x1 s1
  | false =>
    rw [if_neg (by rw [q]; exact Bool.false_ne_true)] at w1
    exact hb n1 tmp p.1 G1 H1 σ Q X s1 xw (wp_imp w1 fun n2 r w2 G2 H2 x2 s2 => w2 G2 H2 (x1.trans x2) s2)
theorem st_not {ta : TT} {a : Env → M (Env × Bool)} (ha : ST K f W ta a) : ST K f W (tNot ta) (tNotM a) := fun n tmp e G H σ Q X s xw w =>
  ha n tmp e G H σ _ X s xw (wp_imp (wpb w) fun n1 p w1 G1 H1 x1 s1 => w1 G1 H1 x1 s1)
/-! ### and, or, not, if of values -/
def eAnd (a b : Env → M (Env × Dv)) : Env → M (Env × Dv) := fun e => (tVal a e).bind fun p => if p.2 = true then b p.1 else .ret (p.1, .t (.bl false))
def eOr (a b : Env → M (Env × Dv)) : Env → M (Env × Dv) := fun e => (tVal a e).bind fun p => if p.2 = true then .ret (p.1, .t (.bl true)) else b p.1
def eNot (a : Env → M (Env × Dv)) : Env → M (Env × Dv) := fun e => (tVal a e).bind fun p => .ret (p.1, .t (.bl !p.2))
def eIf (t : Env → M (Env × Bool)) (a b : Env → M (Env × Dv)) : Env → M (Env × Dv) := fun e => (t e).bind fun p => if p.2 = true then a p.1 else b p.1
theorem se_and {ta tb : TE} {a b : Env → M (Env × Dv)} (ha : SE K f W ta a) (hb : SE K f W tb b) : SE K f W (tAndV ta tb) (eAnd a b) := fun n tmp e G H σ Q X s xw w => by
  refine st_test ha n tmp e G H σ (fun c H1 => if c = true then tb σ H1 Q else Q (.bl false) H1) X s xw (wp_imp (wpb w) fun n1 p w1 G1 H1 x1 s1 => ?_)
  cases q : p.2 with
  | true =>
    rw [if_pos q] at w1
    rw [if_pos rfl]
    exact hb n1 tmp p.1 G1 H1 σ Q X s1 xw (wp_imp w1 fun n2 r w2 v G2 H2 x2 s2 => w2 v G2 H2 (x1.trans x2) s2)
  | false =>
    rw [if_neg (by rw [q]; exact Bool.false_ne_true)] at w1
    rw [if_neg Bool.false_ne_true]
    exact w1 _ G1 H1 x1 (sv_t s1 (.bl false))
theorem se_or {ta tb : TE} {a b : Env → M (Env × Dv)} (ha : SE K f W ta a) (hb : SE K f W tb b) : SE K f W (tOrV ta tb) (eOr a b) := fun n tmp e G H σ Q X s xw w => by
  refine st_test ha n tmp e G H σ (fun c H1 => if c = true then Q (.bl true) H1 else tb σ H1 Q) X s xw (wp_imp (wpb w) fun n1 p w1 G1 H1 x1 s1 => ?_)
  cases q : p.2 with
  | true =>
    rw [if_pos q] at w1
    rw [if_pos rfl]
    exact w1 _ G1 H1 x1 (sv_t s1 (.bl true))
  | false =>
    rw [if_neg (by rw [q]; exact Bool.false_ne_true)] at w1
    rw [if_neg Bool.false_ne_true]
    exact hb n1 tmp p.1 G1 H1 σ Q X s1 xw (wp_imp w1 fun n2 r w2 v G2 H2 x2 s2 => w2 v G2 H2 (x1.trans x2) s2)
theorem se_not {ta : TE} {a : Env → M (Env × Dv)} (ha : SE K f W ta a) : SE K f W (tNotV ta) (eNot a) := fun n tmp e G H σ Q X s xw w =>
  st_test ha n tmp e G H σ (fun c H1 => Q (.bl (!c)) H1) X s xw (wp_imp (wpb w) fun n1 p w1 G1 H1 x1 s1 => w1 _ G1 H1 x1 (sv_t s1 (.bl _)))
theorem se_if {tt : TT} {ta tb : TE} {t : Env → M (Env × Bool)} {a b : Env → M (Env × Dv)} (ht : ST K f W tt t) (ha : SE K f W ta a) (hb : SE K f W tb b) : SE K f W (tIf tt ta tb) (eIf t a b) := fun n tmp e G H σ Q X s xw w => by
  refine ht n tmp e G H σ _ X s xw (wp_imp (wpb w) fun n1 p w1 G1 H1 x1 s1 => ?_)
  cases q : p.2 with
  | true =>
    rw [if_pos q] at w1
    exact ha n1 tmp p.1 G1 H1 σ Q X s1 xw (wp_imp w1 fun n2 r w2 v G2 H2 x2 s2 => w2 v G2 H2 (x1.trans x2) s2)
  | false =>
    rw [if_neg (by rw [q]; exact Bool.false_ne_true)] at w1
    exact hb n1 tmp p.1 G1 H1 σ Q X s1 xw (wp_imp w1 fun n2 r w2 v G2 H2 x2 s2 => w2 v G2 H2 (x1.trans x2) s2)
end
/-! ### statements -/
inductive Rv where
  | t (x : Tr) | fr (ts : List Tr)
inductive Out where
  | nx (e : Env) | rt (r : Rv) | bk (e : Env) | ct (e : Env)
def RVok (K : PySem.W.Frag) (f : Fx) (n : Nat) (G H : Hp) : Rv → V → Prop
  | .t x, v => J K f ⟨n, []⟩ G H ∧ Tp K G v x
  | .fr ts, v => ∃ D, v = .ref D ∧ J K f ⟨n, [(D, ts.map (enT K))]⟩ G H
def PO (K : PySem.W.Frag) (f : Fx) (G : Hp) (D : Ends) (n : Nat) : Out → Prop
  | .nx e => ∀ σ G' H', Ex G G' → Sem K f n [] e G' H' σ → D.nx σ H'
  | .rt r => ∀ v G' H', Ex G G' → RVok K f n G' H' r v → D.rt v H'
  | .bk e => ∀ σ G' H', Ex G G' → Sem K f n [] e G' H' σ → D.bk σ H'
  | .ct e => ∀ σ G' H', Ex G G' → Sem K f n [] e G' H' σ → D.ct σ H'
def SS (K : PySem.W.Frag) (f : Fx) (W : WX) (ts : TS) (m : Env → M Out) : Prop :=
  ∀ n e G H σ (D : Ends) X, Sem K f n [] e G H σ → XW K f W X → wp (m e) n (PO K f G D) X → ts D σ H
section
variable {K : PySem.W.Frag} {f : Fx} {W : WX} {G G' H H' : Hp} {n : Nat} {σ : St} {e : Env} {o r tm tmp : List (Addr × List En)} {ds : List Dv} {vs : List V}
theorem PO.mono {D : Ends} {n : Nat} {o : Out} (x : Ex G G') (h : PO K f G D n o) : PO K f G' D n o := by
  cases o with
  | nx e => exact fun σ G2 H2 x2 => h σ G2 H2 (x.trans x2)
  | rt r => exact fun σ G2 H2 x2 => h σ G2 H2 (x.trans x2)
  | bk e => exact fun σ G2 H2 x2 => h σ G2 H2 (x.trans x2)
  | ct e => exact fun σ G2 H2 x2 => h σ G2 H2 (x.trans x2)
def sSeq (a b : Env → M Out) : Env → M Out := fun e => (a e).bind fun o => match o with
  | .nx e' => b e'
  | o => .ret o
def sNext : Env → M Out := fun e => .ret (.nx e)
def sBreak : Env → M Out := fun e => .ret (.bk e)
def sCont : Env → M Out := fun e => .ret (.ct e)
def sDrop (a : Env → M (Env × Dv)) : Env → M Out := fun e => (a e).bind fun p => .ret (.nx p.1)
def sRet (a : Env → M (Env × Dv)) : Env → M Out := fun e => (a e).bind fun p => match p.2 with
  | .t x => .ret (.rt (.t x))
  | .fr ts => .ret (.rt (.fr ts))
  | .sl i => match p.1[i]? with
    | some (.live ts) => .ret (.rt (.fr ts))
    | some (.t x) => .ret (.rt (.t x))
    | _ => .bad
  | _ => .bad
def sRetN : Env → M Out := fun e => .ret (.rt (.t .non))
def sIf (t : Env → M (Env × Bool)) (a b : Env → M Out) : Env → M Out := fun e => (t e).bind fun p => if p.2 = true then a p.1 else b p.1
def sNever : Env → M Out := fun _ => .bad
def storeD (e : Env) (i : Nat) : Dv → Option Env
  | .fr ts => if i < e.length then some (e.set i (.live ts)) else none
  | .vv v => some (e.set i (.vv v))
  | .pu => some (e.set i .pu)
  | d => match forceD e d with
    | some (e', x) => some (e'.set i (.t x))
    | none => none
def sSet (i : Nat) (a : Env → M (Env × Dv)) : Env → M Out := fun e => (a e).bind fun p => match storeD p.1 i p.2 with
  | some e' => .ret (.nx e')
  | none => .bad
theorem ss_next : SS K f W tNext sNext := fun n e G H σ D X s xw w => w σ G H (Ex.refl G) s
theorem ss_break : SS K f W tBreak sBreak := fun n e G H σ D X s xw w => w σ G H (Ex.refl G) s
theorem ss_cont : SS K f W tCont sCont := fun n e G H σ D X s xw w => w σ G H (Ex.refl G) s
theorem ss_never : SS K f W tNever sNever := fun n e G H σ D X s xw w => w
theorem ss_seq {t u : TS} {a b : Env → M Out} (ha : SS K f W t a) (hb : SS K f W u b) : SS K f W (tSeq t u) (sSeq a b) := fun n e G H σ D X s xw w => by
  refine ha n e G H σ { D with nx := u D } X s xw (wp_imp (wpb w) fun n1 o w1 => ?_)
  cases o with
  | nx e' => exact fun σ' G' H' x s' => hb n1 e' G' H' σ' D X s' xw (wp_imp w1 fun n2 o2 w2 => w2.mono x)
  | rt r => exact w1
  | bk r => exact w1
  | ct r => exact w1
theorem Sem.drop0 (s : Sem K f n tmp e G H σ) : Sem K f n [] e G H σ := Sem.drop (tm := tmp) (by rw [List.append_nil]; exact s)
theorem sv_sem {d : Dv} {v : V} (h : SV K f n tmp e G H σ d v) : Sem K f n tmp e G H σ := by
  obtain ⟨tm, _, s⟩ := h
  exact s.drop
theorem ss_drop {te : TE} {a : Env → M (Env × Dv)} (ha : SE K f W te a) : SS K f W (tDrop te) (sDrop a) := fun n e G H σ D X s xw w =>
  ha n [] e G H σ _ X s xw (wp_imp (wpb w) fun n1 p w1 v G1 H1 x1 sv => w1 σ G1 H1 x1 (sv_sem sv))
theorem ss_retN : SS K f W tRetN sRetN := fun n e G H σ D X s xw w => by
  obtain ⟨o, re, j⟩ := s
  exact w .non G H (Ex.refl G) ⟨jsub j (List.nil_sublist _), .non⟩
theorem ss_ret {te : TE} {a : Env → M (Env × Dv)} (ha : SE K f W te a) : SS K f W (tRet te) (sRet a) := fun n e G H σ D X s xw w => by
  refine ha n [] e G H σ _ X s xw (wp_imp (wpb w) fun n1 p w1 v G1 H1 x1 sv => ?_)
  obtain ⟨tm, dk, o, re, j⟩ := sv
  obtain ⟨e1, d⟩ := p
  cases dk with
  | t a b => exact w1 v G1 H1 x1 ⟨jsub j (List.nil_sublist _), a⟩
  | fr b =>
    cases b
    exact w1 _ G1 H1 x1 ⟨_, rfl, jsub j (by simp)⟩
  | @sl i _ _ _ _ a b =>
    dsimp only at w1
    cases q : e1[i]? with
    | none => simp only [q] at w1; exact w1.elim
    | some y =>
      cases y with
      | live ts =>
        simp only [q] at w1
        obtain ⟨D', rfl, m⟩ := re.own q a
        refine w1 _ G1 H1 x1 ⟨_, rfl, jsub j ?_⟩
        exact List.singleton_sublist.mpr (List.mem_append_right _ m)
      | t x =>
        simp only [q] at w1
        obtain ⟨u, q1, q2⟩ := re.getT q
        rw [a] at q1
        cases q1
        exact w1 _ G1 H1 x1 ⟨jsub j (List.nil_sublist _), q2⟩
      | _ => simp only [q] at w1; exact w1.elim
  | vv b => exact w1.elim
  | pu a b => exact w1.elim
theorem ss_if {tt : TT} {t u : TS} {c : Env → M (Env × Bool)} {a b : Env → M Out} (ht : ST K f W tt c) (ha : SS K f W t a) (hb : SS K f W u b) : SS K f W (tIfS tt t u) (sIf c a b) := fun n e G H σ D X s xw w => by
  refine ht n [] e G H σ _ X s xw (wp_imp (wpb w) fun n1 p w1 G1 H1 x1 s1 => ?_)
  cases q : p.2 with
  | true =>
    rw [if_pos q] at w1
    exact ha n1 p.1 G1 H1 σ D X s1 xw (wp_imp w1 fun n2 o w2 => w2.mono x1)
  | false =>
    rw [if_neg (by rw [q]; exact Bool.false_ne_true)] at w1
    exact hb n1 p.1 G1 H1 σ D X s1 xw (wp_imp w1 fun n2 o w2 => w2.mono x1)
/-- a slot is stored -/
theorem put_sub (re : RE K f G σ e o) {o1 o2 : List (Addr × List En)} {i : Nat} (h6 : (∀ ts, e[i]? ≠ some (.live ts)) → o = o1 ++ o2) (h7 : ∀ ts, e[i]? = some (.live ts) → ∃ D, σ[i]? = some (some (.ref D)) ∧ o = o1 ++ (D, ts.map (enT K)) :: o2) : (o1 ++ o2).Sublist o := by
  by_cases h : ∃ ts, e[i]? = some (.live ts)
  · obtain ⟨ts, h⟩ := h
    obtain ⟨D, _, q⟩ := h7 ts h
    rw [q]
    exact List.Sublist.append_left (List.sublist_cons_self _ _) o1
  · rw [h6 fun ts q => h ⟨ts, q⟩]
    exact List.Sublist.refl _
theorem Sem.putT {i : Nat} {v : V} {x : Tr} (s : Sem K f n tmp e G H σ) (h : Tp K G v x) : Sem K f n tmp (e.set i (.t x)) G H (σ.set i (some v)) := by
  obtain ⟨o, re, j⟩ := s
  obtain ⟨o1, o2, _, h2, _, _, _, h6, h7⟩ := re.put i
  exact ⟨o1 ++ o2, h2 v x h, jsub j (List.Sublist.append_left (put_sub re h6 h7) _)⟩
theorem Sem.putV {i : Nat} {v : V} (s : Sem K f n tmp e G H σ) : Sem K f n tmp (e.set i (.vv v)) G H (σ.set i (some v)) := by
  obtain ⟨o, re, j⟩ := s
  obtain ⟨o1, o2, _, _, h3, _, _, h6, h7⟩ := re.put i
  exact ⟨o1 ++ o2, h3 v, jsub j (List.Sublist.append_left (put_sub re h6 h7) _)⟩
theorem Sem.putP {i : Nat} {p c : Addr} (s : Sem K f n tmp e G H σ) (h : f.pu = some (p, c)) : Sem K f n tmp (e.set i .pu) G H (σ.set i (some (.ref p))) := by
  obtain ⟨o, re, j⟩ := s
  obtain ⟨o1, o2, _, _, _, h4, _, h6, h7⟩ := re.put i
  exact ⟨o1 ++ o2, h4 p c h, jsub j (List.Sublist.append_left (put_sub re h6 h7) _)⟩
theorem Sem.putN {i : Nat} {v : Option V} (s : Sem K f n tmp e G H σ) : Sem K f n tmp (e.set i .no) G H (σ.set i v) := by
  obtain ⟨o, re, j⟩ := s
  obtain ⟨o1, o2, h1, _, _, _, _, h6, h7⟩ := re.put i
  exact ⟨o1 ++ o2, h1 v, jsub j (List.Sublist.append_left (put_sub re h6 h7) _)⟩
theorem Sem.putL {i : Nat} {D : Addr} {ts : List Tr} (s : Sem K f n ((D, ts.map (enT K)) :: tmp) e G H σ) (hi : i < e.length) : Sem K f n tmp (e.set i (.live ts)) G H (σ.set i (some (.ref D))) := by
  obtain ⟨o, re, j⟩ := s
  obtain ⟨o1, o2, _, _, _, _, h5, h6, h7⟩ := re.put i
  refine ⟨_, h5 hi D ts, jperm (jsub j (r' := (D, ts.map (enT K)) :: (tmp ++ (o1 ++ o2))) ?_) ?_⟩
  · exact List.Sublist.cons₂ _ (List.Sublist.append_left (put_sub re h6 h7) _)
  · rw [← List.append_assoc, ← List.append_assoc]
    exact List.perm_middle.symm
theorem store_ok' {i : Nat} {d : Dv} {v : V} {e' : Env} (h : SV K f n tmp e G H σ d v) (q : storeD e i d = some e') : ∃ G', Ex G G' ∧ Sem K f n tmp e' G' H (σ.set i (some v)) := by
  have nf : (match forceD e d with | some (e', x) => some (e'.set i (Slot.t x)) | none => none) = some e' → ∃ G', Ex G G' ∧ Sem K f n tmp e' G' H (σ.set i (some v)) := fun z => by
    cases y : forceD e d with
    | none => simp [y] at z
    | some p =>
      obtain ⟨e1, x⟩ := p
      simp only [y, Option.some.injEq] at z
      subst z
      obtain ⟨G', x1, s1, tp⟩ := force_ok h y
      exact ⟨G', x1, s1.putT tp⟩
  cases d with
  | t x => exact nf q
  | sl x => exact nf q
  | fr ts =>
    have q' : (if i < e.length then some (e.set i (Slot.live ts)) else none) = some e' := q
    obtain ⟨tm, dk, s⟩ := h
    cases dk with
    | fr b =>
      cases b
      by_cases hi : i < e.length
      · rw [if_pos hi] at q'
        cases q'
        exact ⟨G, Ex.refl G, Sem.putL s hi⟩
      · rw [if_neg hi] at q'
        cases q'
  | vv u =>
    cases q
    obtain ⟨tm, dk, s⟩ := h
    cases dk with
    | vv b =>
      cases b
      exact ⟨G, Ex.refl G, s.putV⟩
  | pu =>
    cases q
    obtain ⟨tm, dk, s⟩ := h
    cases dk with
    | pu a b =>
      cases b
      exact ⟨G, Ex.refl G, s.putP a⟩
theorem ss_set {i : Nat} {te : TE} {a : Env → M (Env × Dv)} (ha : SE K f W te a) : SS K f W (tAsg te (gName i)) (sSet i a) := fun n e G H σ D X s xw w => by
  refine ha n [] e G H σ _ X s xw (wp_imp (wpb w) fun n1 p w1 v G1 H1 x1 sv => ?_)
  cases q : storeD p.1 i p.2 with
  | none => simp only [q] at w1; exact w1.elim
  | some e' =>
    simp only [q] at w1
    obtain ⟨G2, x2, s2⟩ := store_ok' sv q
    exact w1 _ G2 H1 (x1.trans x2) s2
end
end Ev

namespace Ev
open PySem L2 Evl Dl
/-! ### what is walked -/
inductive Item where
  | one (t : Tr) | two (t u : Tr)
def YR (K : PySem.W.Frag) (G H : Hp) (v : V) : Item → Prop
  | .one t => Tp K G v t
  | .two t u => ∃ T x y, v = .ref T ∧ H T = some (.tup [x, y]) ∧ Tp K G x t ∧ Tp K G y u
def Grow (H H' : Hp) : Prop := H' = H ∨ ∃ T o, H T = none ∧ H' = upd H T o
def ItOk (K : PySem.W.Frag) (G : Hp) (J : It) (its : List Item) : Prop :=
  (∀ i H, Ex G H → its.length ≤ i → J.stop i H) ∧ ∀ i it H, Ex G H → its[i]? = some it → J.go i H ∧ ∀ x H', J.yld i H x H' → Grow H H' ∧ YR K G H' x it
def SI (K : PySem.W.Frag) (f : Fx) (W : WX) (wi : TI) (m : Env → M (Env × List Item)) : Prop :=
  ∀ n tmp e G H σ (R : It → Hp → Prop) X, Sem K f n tmp e G H σ → XW K f W X → wp (m e) n (fun n' r => ∀ G' H' J, Ex G G' → Sem K f n' tmp r.1 G' H' σ → ItOk K G' J r.2 → R J H') X → wi σ H R
section
variable {K : PySem.W.Frag} {f : Fx} {W : WX} {G G' H H' : Hp} {n : Nat} {σ : St} {e : Env} {o r tm tmp : List (Addr × List En)} {ds : List Dv} {vs : List V}
theorem Sem.ex (s : Sem K f n tmp e G H σ) : Ex G H := by
  obtain ⟨_, _, j⟩ := s
  exact j.ex
theorem Sem.grow (s : Sem K f n tmp e G H σ) (g : Grow H H') : Sem K f n tmp e G H' σ := by
  rcases g with rfl | ⟨T, ob, h, rfl⟩
  · exact s
  · exact s.allocH h
theorem itok_list {a : Addr} {xs : List V} {ts : List Tr} (hs' : G a = some (.lst xs)) (al : TpAll K G xs ts) : ItOk K G (Itl K a) (ts.map .one) := by
  have hs : SqL K G a xs := sq_of hs'
  refine ⟨fun i H x hi => ⟨xs, ex_l x hs, by rw [al.len]; simpa using hi⟩, fun i it H x hi => ?_⟩
  rw [List.getElem?_map] at hi
  obtain ⟨t, h1, rfl⟩ := Option.map_eq_some_iff.mp hi
  obtain ⟨v, hv, tp⟩ := al.get h1
  refine ⟨⟨xs, v, ex_l x hs, hv⟩, fun u H' ⟨e1, e2⟩ => ⟨.inl e1, ?_⟩⟩
  have := e2 xs (ex_l x hs)
  rw [hv] at this
  cases this
  exact tp
theorem itok_tup {a : Addr} {xs : List V} {ts : List Tr} (hs : SqT K G a xs) (al : TpAll K G xs ts) : ItOk K G (Itt K a) (ts.map .one) := by
  refine ⟨fun i H x hi => ⟨xs, ex_t x hs, by rw [al.len]; simpa using hi⟩, fun i it H x hi => ?_⟩
  rw [List.getElem?_map] at hi
  obtain ⟨t, h1, rfl⟩ := Option.map_eq_some_iff.mp hi
  obtain ⟨v, hv, tp⟩ := al.get h1
  refine ⟨⟨xs, v, ex_t x hs, hv⟩, fun u H' ⟨e1, e2⟩ => ⟨.inl e1, ?_⟩⟩
  have := e2 xs (ex_t x hs)
  rw [hv] at this
  cases this
  exact tp
/-- a list, a tuple, a text -/
def iSeq (m : Env → M (Env × Dv)) : Env → M (Env × List Item) := fun e => (m e).bind fun p => match forceD p.1 p.2 with
  | some (e2, .lst ts) => .ret (e2, ts.map .one)
  | some (e2, .tup ts) => .ret (e2, ts.map .one)
  | some (e2, .str x) => .ret (e2, (x.cps.toList.map fun c => Tr.str ⟨#[c]⟩).map .one)
  | _ => .bad
def iAny (K : PySem.W.Frag) (tl : TE) : TI := fun σ H R => tl σ H fun v H1 => (∃ a, v = .ref a ∧ (∃ xs, SqL K H1 a xs) ∧ R (Itl K a) H1) ∨ (∃ a, v = .ref a ∧ (∃ xs, SqT K H1 a xs) ∧ R (Itt K a) H1) ∨ ∃ x, v = .str x ∧ R (Its x) H1
theorem itok_str {x : Str} : ItOk K G (Its x) ((x.cps.toList.map fun c => Tr.str ⟨#[c]⟩).map .one) := by
  refine ⟨fun i H _ hi => by simpa [Its] using hi, fun i it H _ hi => ?_⟩
  rw [List.getElem?_map, List.getElem?_map] at hi
  cases q : x.cps.toList[i]? with
  | none => rw [q] at hi; cases hi
  | some c =>
    rw [q] at hi
    cases hi
    have q' : x.cps[i]? = some c := by simpa using q
    have hlt : i < x.cps.size := by
      have := (List.getElem?_eq_some_iff.mp q).1
      simpa using this
    refine ⟨hlt, fun v H' ⟨e1, c', e2, e3⟩ => ⟨.inl e1, ?_⟩⟩
    rw [q'] at e2
    cases e2
    subst e3
    exact .str _
theorem si_seq {te : TE} {m : Env → M (Env × Dv)} (h : SE K f W te m) : SI K f W (iAny K te) (iSeq m) := fun n tmp e G H σ R X s xw w => by
  refine h n tmp e G H σ _ X s xw (wp_imp (wpb w) fun n1 p w1 v G1 H1 x1 sv => ?_)
  cases q : forceD p.1 p.2 with
  | none => simp only [q] at w1; exact w1.elim
  | some z =>
    obtain ⟨e2, x⟩ := z
    obtain ⟨G2, x2, s2, tp⟩ := force_ok sv q
    cases x with
    | lst ts =>
      simp only [q] at w1
      cases tp with
      | lst hs al => exact .inl ⟨_, rfl, ⟨_, ex_l s2.ex (sq_of hs)⟩, w1 G2 H1 _ (x1.trans x2) s2 (itok_list hs al)⟩
    | tup ts =>
      simp only [q] at w1
      cases tp with
      | tup hs al => exact .inr (.inl ⟨_, rfl, ⟨_, ex_t s2.ex hs⟩, w1 G2 H1 _ (x1.trans x2) s2 (itok_tup hs al)⟩)
    | str y =>
      simp only [q] at w1
      cases tp
      exact .inr (.inr ⟨_, rfl, w1 G2 H1 _ (x1.trans x2) s2 itok_str⟩)
    | _ => simp only [q] at w1; exact w1.elim
/-- range(..) -/
def rngI (lo hi : Int) : List Item := (List.range (hi - lo).toNat).map fun (i : Nat) => Item.one (.int (lo + (i : Int)))
def iRange1 (a : Env → M (Env × List Dv)) : Env → M (Env × List Item) := fun e => (a e).bind fun p => match p.2 with
  | [.t (.int j)] => if smallI j = true then .ret (p.1, rngI 0 j) else .bad
  | _ => .bad
def iRange2 (a : Env → M (Env × List Dv)) : Env → M (Env × List Item) := fun e => (a e).bind fun p => match p.2 with
  | [.t (.int i), .t (.int j)] => if (smallI i && smallI j) = true then .ret (p.1, rngI i j) else .bad
  | _ => .bad
theorem itok_rng {lo : Int} {n : Nat} : ItOk K G (Itr lo n) ((List.range n).map fun (i : Nat) => Item.one (.int (lo + (i : Int)))) := by
  refine ⟨fun i H _ hi => by simpa [Itr] using hi, fun i it H _ hi => ?_⟩
  rw [List.getElem?_map] at hi
  cases q : (List.range n)[i]? with
  | none => rw [q] at hi; cases hi
  | some c =>
    rw [q] at hi
    cases hi
    have hlt : i < n := by simpa using (List.getElem?_eq_some_iff.mp q).1
    have hc : c = i := by
      rw [List.getElem?_range hlt] at q
      cases q
      rfl
    subst hc
    refine ⟨hlt, fun v H' ⟨e1, e2⟩ => ⟨.inl e1, ?_⟩⟩
    subst e2
    exact .int _
theorem si_range1 {ta : TA} {a : Env → M (Env × List Dv)} (h : SA K f W ta a) : SI K f W (iRng1 ta) (iRange1 a) := fun n tmp e G H σ R X s xw w => by
  refine h n tmp e G H σ _ X s xw (wp_imp (wpb w) fun n1 p w1 vs G1 H1 x1 svs => ?_)
  obtain ⟨tm, dk, s1⟩ := svs
  obtain ⟨e1, ds⟩ := p
  dsimp only at w1 dk s1
  split at w1
  · rename_i j
    cases dk with
    | t a b =>
      cases b
      cases a
      split at w1
      · rename_i hj
        have hj := smallI_iff.mp hj
        refine ⟨j, rfl, by omega, by omega, w1 G1 H1 _ x1 s1.drop ?_⟩
        have : (j - 0).toNat = j.toNat := by rw [Int.sub_zero]
        unfold rngI
        rw [this]
        exact itok_rng
      · exact w1.elim
  · exact w1.elim
theorem si_range2 {ta : TA} {a : Env → M (Env × List Dv)} (h : SA K f W ta a) : SI K f W (iRng2 ta) (iRange2 a) := fun n tmp e G H σ R X s xw w => by
  refine h n tmp e G H σ _ X s xw (wp_imp (wpb w) fun n1 p w1 vs G1 H1 x1 svs => ?_)
  obtain ⟨tm, dk, s1⟩ := svs
  obtain ⟨e1, ds⟩ := p
  dsimp only at w1 dk s1
  split at w1
  · rename_i i j
    cases dk with
    | t a b =>
      cases b with
      | t a2 b =>
        cases b
        cases a
        cases a2
        split at w1
        · rename_i hj
          have hi := smallI_iff.mp (Bool.and_eq_true_iff.mp hj).1
          have hj := smallI_iff.mp (Bool.and_eq_true_iff.mp hj).2
          exact ⟨i, j, rfl, by omega, w1 G1 H1 _ x1 s1.drop itok_rng⟩
        · exact w1.elim
  · exact w1.elim
/-- zip of two lists, of two tuples -/
def pairI : List Tr → List Tr → List Item
  | a :: as, b :: bs => .two a b :: pairI as bs
  | _, _ => []
def iZipM (a : Env → M (Env × List Dv)) : Env → M (Env × List Item) := fun e => (a e).bind fun p => match slotsOf p.1 p.2 with
  | some (e2, [.t (.lst xs), .t (.lst ys)]) => .ret (e2, pairI xs ys)
  | some (e2, [.t (.tup xs), .t (.tup ys)]) => .ret (e2, pairI xs ys)
  | _ => .bad
theorem pairI_get : ∀ {xs ys : List Tr} {i : Nat} {it : Item}, (pairI xs ys)[i]? = some it → ∃ a b, xs[i]? = some a ∧ ys[i]? = some b ∧ it = .two a b
  | a :: as, b :: bs, 0, it, h => by
    simp only [pairI, List.getElem?_cons_zero, Option.some.injEq] at h
    exact ⟨a, b, rfl, rfl, h.symm⟩
  | a :: as, b :: bs, i + 1, it, h => by
    simp only [pairI, List.getElem?_cons_succ] at h
    simpa using pairI_get h
  | [], _, _, _, h => by simp [pairI] at h
  | _ :: _, [], _, _, h => by simp [pairI] at h
theorem pairI_len : ∀ {xs ys : List Tr}, (pairI xs ys).length = min xs.length ys.length
  | a :: as, b :: bs => by
    simp only [pairI, List.length_cons, pairI_len]
    omega
  | [], _ => by simp [pairI]
  | _ :: _, [] => by simp [pairI]
theorem si_zip {ta : TA} {a : Env → M (Env × List Dv)} (h : SA K f W ta a) : SI K f W (RZ.iZipA K ta) (iZipM a) := fun n tmp e G H σ R X s xw w => by
  refine h n tmp e G H σ _ X s xw (wp_imp (wpb w) fun n1 p w1 vs G1 H1 x1 svs => ?_)
  cases q : slotsOf p.1 p.2 with
  | none => simp only [q] at w1; exact w1.elim
  | some z =>
    obtain ⟨e2, ss⟩ := z
    obtain ⟨G2, x2, s2, ak⟩ := slots_ok svs q
    simp only [q] at w1
    split at w1
    · rename_i e2' xs ys zz
      obtain ⟨rfl, rfl⟩ := Prod.mk.inj (Option.some.inj zz)
      cases ak with
      | t a ak =>
        cases ak with
        | t b ak =>
          cases ak
          cases a with
          | lst hs' al =>
            cases b with
            | lst hs2' al2 =>
              have hs := sq_of (K := K) hs'
              have hs2 := sq_of (K := K) hs2'
              refine ⟨_, _, _, _, rfl, .inl ⟨ex_l s2.ex hs, ex_l s2.ex hs2, w1 G2 H1 _ (x1.trans x2) s2 ⟨fun i H x hi => ⟨_, _, ex_l x hs, ex_l x hs2, ?_⟩, fun i it H x hi => ?_⟩⟩⟩
              · rw [pairI_len] at hi
                rw [al.len, al2.len]
                omega
              · obtain ⟨a, b, ha, hb, rfl⟩ := pairI_get hi
                obtain ⟨va, hva, ta⟩ := al.get ha
                obtain ⟨vb, hvb, tb⟩ := al2.get hb
                refine ⟨⟨_, _, va, vb, ex_l x hs, ex_l x hs2, hva, hvb⟩, fun v H' ⟨T, x', y', h1, h2, h3, h4, h5⟩ => ⟨.inr ⟨T, _, h2, h3⟩, T, x', y', h1, by rw [h3, upd_same], ?_, ?_⟩⟩
                · have := h4 _ (ex_l x hs)
                  rw [hva] at this
                  cases this
                  exact ta
                · have := h5 _ (ex_l x hs2)
                  rw [hvb] at this
                  cases this
                  exact tb
    · rename_i e2' xs ys zz
      obtain ⟨rfl, rfl⟩ := Prod.mk.inj (Option.some.inj zz)
      cases ak with
      | t a ak =>
        cases ak with
        | t b ak =>
          cases ak
          cases a with
          | tup hs al =>
            cases b with
            | tup hs2 al2 =>
              refine ⟨_, _, _, _, rfl, .inr ⟨ex_t s2.ex hs, ex_t s2.ex hs2, w1 G2 H1 _ (x1.trans x2) s2 ⟨fun i H x hi => ⟨_, _, ex_t x hs, ex_t x hs2, ?_⟩, fun i it H x hi => ?_⟩⟩⟩
              · rw [pairI_len] at hi
                rw [al.len, al2.len]
                omega
              · obtain ⟨a, b, ha, hb, rfl⟩ := pairI_get hi
                obtain ⟨va, hva, ta⟩ := al.get ha
                obtain ⟨vb, hvb, tb⟩ := al2.get hb
                refine ⟨⟨_, _, va, vb, ex_t x hs, ex_t x hs2, hva, hvb⟩, fun v H' ⟨T, x', y', h1, h2, h3, h4, h5⟩ => ⟨.inr ⟨T, _, h2, h3⟩, T, x', y', h1, by rw [h3, upd_same], ?_, ?_⟩⟩
                · have := h4 _ (ex_t x hs)
                  rw [hva] at this
                  cases this
                  exact ta
                · have := h5 _ (ex_t x hs2)
                  rw [hvb] at this
                  cases this
                  exact tb
    · exact w1.elim
/-- enumerate of a list -/
def enumI : Nat → List Tr → List Item
  | _, [] => []
  | k, a :: as => .two (.int (k : Int)) a :: enumI (k + 1) as
theorem enumI_get : ∀ {xs : List Tr} {k i : Nat} {it : Item}, (enumI k xs)[i]? = some it → ∃ a, xs[i]? = some a ∧ it = .two (.int ((k + i : Nat) : Int)) a
  | a :: as, k, 0, it, h => by
    simp only [enumI, List.getElem?_cons_zero, Option.some.injEq] at h
    exact ⟨a, rfl, h.symm⟩
  | a :: as, k, i + 1, it, h => by
    simp only [enumI, List.getElem?_cons_succ] at h
    obtain ⟨b, h1, h2⟩ := enumI_get h
    exact ⟨b, by simpa using h1, by rw [h2]; congr 3; omega⟩
  | [], _, _, _, h => by simp [enumI] at h
theorem enumI_len : ∀ {xs : List Tr} {k : Nat}, (enumI k xs).length = xs.length
  | [], _ => rfl
  | a :: as, k => by simp [enumI, enumI_len]
def iEnumM (a : Env → M (Env × List Dv)) : Env → M (Env × List Item) := fun e => (a e).bind fun p => match slotsOf p.1 p.2 with
  | some (e2, [.t (.lst xs)]) => .ret (e2, enumI 0 xs)
  | _ => .bad
theorem si_enum {ta : TA} {a : Env → M (Env × List Dv)} (h : SA K f W ta a) : SI K f W (iEnum K ta) (iEnumM a) := fun n tmp e G H σ R X s xw w => by
  refine h n tmp e G H σ _ X s xw (wp_imp (wpb w) fun n1 p w1 vs G1 H1 x1 svs => ?_)
  cases q : slotsOf p.1 p.2 with
  | none => simp only [q] at w1; exact w1.elim
  | some z =>
    obtain ⟨e2, ss⟩ := z
    obtain ⟨G2, x2, s2, ak⟩ := slots_ok svs q
    simp only [q] at w1
    split at w1
    · rename_i e2' xs zz
      obtain ⟨rfl, rfl⟩ := Prod.mk.inj (Option.some.inj zz)
      cases ak with
      | t a ak =>
        cases ak
        cases a with
        | lst hs' al =>
          have hs := sq_of (K := K) hs'
          refine ⟨_, _, rfl, ex_l s2.ex hs, w1 G2 H1 _ (x1.trans x2) s2 ⟨fun i H x hi => ⟨_, ex_l x hs, ?_⟩, fun i it H x hi => ?_⟩⟩
          · rw [enumI_len] at hi
            rw [al.len]
            exact hi
          · obtain ⟨a, ha, rfl⟩ := enumI_get hi
            obtain ⟨va, hva, ta⟩ := al.get ha
            refine ⟨⟨_, va, ex_l x hs, hva⟩, fun v H' ⟨T, x', h1, h2, h3, h4⟩ => ⟨.inr ⟨T, _, h2, h3⟩, T, .int (i : Int), x', h1, by rw [h3, upd_same], ?_, ?_⟩⟩
            · rw [Nat.zero_add]
              exact .int _
            · have := h4 _ (ex_l x hs)
              rw [hva] at this
              cases this
              exact ta
    · exact w1.elim
/-! ### targets -/
def SG (K : PySem.W.Frag) (f : Fx) (g : TG) (b : Item → Env → Option Env) : Prop :=
  ∀ n tmp e G H σ v it e' (Q : St → Hp → Prop), Sem K f n tmp e G H σ → YR K G H v it → b it e = some e' → (∀ σ', Sem K f n tmp e' G H σ' → Q σ' H) → g v σ H Q
def SGs (K : PySem.W.Frag) (f : Fx) (g : TGs) (b : List Tr → Env → Option Env) : Prop :=
  ∀ n tmp e G H σ vs ts e' (Q : St → Hp → Prop), Sem K f n tmp e G H σ → TpAll K G vs ts → b ts e = some e' → (∀ σ', Sem K f n tmp e' G H σ' → Q σ' H) → g vs σ H Q
def bName (i : Nat) : Item → Env → Option Env := fun it e => match it with
  | .one t => some (e.set i (.t t))
  | .two _ _ => none
theorem sg_name {i : Nat} : SG K f (gName i) (bName i) := fun n tmp e G H σ v it e' Q s y q k => by
  cases it with
  | one t =>
    cases q
    exact k _ (s.putT y)
  | two _ _ => cases q
def bNil : List Tr → Env → Option Env := fun ts e => match ts with
  | [] => some e
  | _ => none
def bCons (b : Item → Env → Option Env) (r : List Tr → Env → Option Env) : List Tr → Env → Option Env := fun ts e => match ts with
  | [] => none
  | t :: ts => match b (.one t) e with
    | some e' => r ts e'
    | none => none
theorem sgs_nil : SGs K f gNil bNil := fun n tmp e G H σ vs ts e' Q s y q k => by
  cases y with
  | nil =>
    cases q
    exact ⟨rfl, k σ s⟩
  | cons _ _ => cases q
theorem sgs_cons {g : TG} {gs : TGs} {b : Item → Env → Option Env} {r : List Tr → Env → Option Env} (h : SG K f g b) (hs : SGs K f gs r) : SGs K f (gCons g gs) (bCons b r) := fun n tmp e G H σ vs ts e' Q s y q k => by
  cases y with
  | nil => cases q
  | cons a al =>
    rename_i v vs t ts
    cases z : b (.one t) e with
    | none => simp [bCons, z] at q
    | some e1 =>
      simp only [bCons, z] at q
      exact ⟨v, vs, rfl, h n tmp e G H σ v (.one t) e1 _ s a z fun σ' s' => hs n tmp e1 G H σ' vs ts e' Q s' al q k⟩
def bTup (m : Nat) (r : List Tr → Env → Option Env) : Item → Env → Option Env := fun it e => match it with
  | .one (.tup ts) => if ts.length = m then r ts e else none
  | .two a b => if m = 2 then r [a, b] e else none
  | _ => none
theorem sg_tup {m : Nat} {gs : TGs} {r : List Tr → Env → Option Env} (hs : SGs K f gs r) : SG K f (gTup K m gs) (bTup m r) := fun n tmp e G H σ v it e' Q s y q k => by
  cases it with
  | one t =>
    cases t with
    | tup ts =>
      cases y with
      | tup sq al =>
        have q' : (if ts.length = m then r ts e else none) = some e' := q
        by_cases hm : ts.length = m
        · rw [if_pos hm] at q'
          exact ⟨_, _, rfl, ex_t s.ex sq, by rw [al.len]; exact hm, hs n tmp e G H σ _ ts e' Q s al q' k⟩
        · rw [if_neg hm] at q'
          cases q'
    | _ => cases q
  | two a b =>
    obtain ⟨T, x, z, rfl, hT, ta, tb⟩ := y
    have q' : (if m = 2 then r [a, b] e else none) = some e' := q
    by_cases hm : m = 2
    · rw [if_pos hm] at q'
      exact ⟨T, [x, z], rfl, st_of hT, by rw [hm]; rfl, hs n tmp e G H σ _ [a, b] e' Q s (.cons ta (.cons tb .nil)) q' k⟩
    · rw [if_neg hm] at q'
      cases q'
/-- a, b = e -/
def sUnp (b : Item → Env → Option Env) (a : Env → M (Env × Dv)) : Env → M Out := fun e => (a e).bind fun p => match forceD p.1 p.2 with
  | some (e2, x) => match b (.one x) e2 with
    | some e' => .ret (.nx e')
    | none => .bad
  | none => .bad
theorem ss_unp {te : TE} {g : TG} {a : Env → M (Env × Dv)} {b : Item → Env → Option Env} (ha : SE K f W te a) (hg : SG K f g b) : SS K f W (tAsg te g) (sUnp b a) := fun n e G H σ D X s xw w => by
  refine ha n [] e G H σ _ X s xw (wp_imp (wpb w) fun n1 p w1 v G1 H1 x1 sv => ?_)
  cases q : forceD p.1 p.2 with
  | none => simp only [q] at w1; exact w1.elim
  | some z =>
    obtain ⟨e2, x⟩ := z
    obtain ⟨G2, x2, s2, tp⟩ := force_ok sv q
    simp only [q] at w1
    cases q2 : b (.one x) e2 with
    | none => simp only [q2] at w1; exact w1.elim
    | some e' =>
      simp only [q2] at w1
      exact hg n1 [] e2 G2 H1 σ v (.one x) e' _ s2 tp q2 fun σ' s' => w1 σ' G2 H1 (x1.trans x2) s'
/-! ### for, while -/
def forL (b : Item → Env → Option Env) (body : Env → M Out) : List Item → Env → M Out
  | [], e => .ret (.nx e)
  | it :: its, e => match b it e with
    | none => .bad
    | some e2 => (body e2).bind fun o => match o with
      | .nx e' => forL b body its e'
      | .ct e' => forL b body its e'
      | .bk e' => .ret (.nx e')
      | .rt r => .ret (.rt r)
def sFor (it : Env → M (Env × List Item)) (b : Item → Env → Option Env) (body : Env → M Out) : Env → M Out := fun e => (it e).bind fun p => forL b body p.2 p.1
theorem ss_for {wi : TI} {g : TG} {tb : TS} {it : Env → M (Env × List Item)} {b : Item → Env → Option Env} {body : Env → M Out} (hi : SI K f W wi it) (hg : SG K f g b) (hb : SS K f W tb body) : SS K f W (tFor wi g tb) (sFor it b body) := fun n e G H σ D X s xw w => by
  refine hi n [] e G H σ _ X s xw (wp_imp (wpb w) fun n1 p w1 G1 H1 J x1 s1 io => ?_)
  obtain ⟨e1, its⟩ := p
  dsimp only at w1 s1 io
  refine ⟨fun i m σ' H' => m = its.length - i ∧ ∃ n' e' G', Ex G1 G' ∧ Sem K f n' [] e' G' H' σ' ∧ wp (forL b body (its.drop i) e') n' (PO K f G D) X, ⟨_, rfl, n1, e1, G1, Ex.refl G1, s1, w1⟩, ?_⟩
  rintro i m σ' H' ⟨rfl, n', e', G', eg, s', w'⟩
  by_cases hlt : i < its.length
  · have hx : its[i]? = some its[i] := List.getElem?_eq_getElem hlt
    have hd : its.drop i = its[i] :: its.drop (i + 1) := List.drop_eq_getElem_cons hlt
    obtain ⟨h1, h2⟩ := io.2 i its[i] H' (eg.trans s'.ex) hx
    refine .inr ⟨h1, fun σ2 H2 => ∃ n' e' G', Ex G1 G' ∧ Sem K f n' [] e' G' H2 σ2 ∧ wp (forL b body (its.drop (i + 1)) e') n' (PO K f G D) X, fun σ2 H2 h => ⟨_, by omega, rfl, h⟩, fun x H2 yl => ?_⟩
    obtain ⟨gr, yr⟩ := h2 x H2 yl
    rw [hd] at w'
    unfold forL at w'
    cases q : b its[i] e' with
    | none => simp only [q] at w'; exact w'.elim
    | some e2 =>
      simp only [q] at w'
      have yr' : YR K G' H2 x its[i] := by
        revert yr
        cases its[i] with
        | one t => exact fun h => h.mono eg
        | two t u => exact fun ⟨T, x, y, a1, a2, a3, a4⟩ => ⟨T, x, y, a1, a2, a3.mono eg, a4.mono eg⟩
      refine hg n' [] e' G' H2 σ' x its[i] e2 _ (s'.grow gr) yr' q fun σ3 s3 => ?_
      refine hb n' e2 G' H2 σ3 _ X s3 xw (wp_imp (wpb w') fun n4 o w4 => ?_)
      cases o with
      | nx e4 => exact fun σ4 G4 H4 x4 s4 => ⟨n4, e4, G4, eg.trans x4, s4, w4⟩
      | ct e4 => exact fun σ4 G4 H4 x4 s4 => ⟨n4, e4, G4, eg.trans x4, s4, w4⟩
      | bk e4 => exact fun σ4 G4 H4 x4 s4 => w4 σ4 G4 H4 ((x1.trans eg).trans x4) s4
      | rt r => exact fun v G4 H4 x4 s4 => w4 v G4 H4 ((x1.trans eg).trans x4) s4
  · rw [List.drop_eq_nil_of_le (by omega)] at w'
    exact .inl ⟨io.1 i H' (eg.trans s'.ex) (by omega), w' σ' G' H' (x1.trans eg) s'⟩
def whileM (c : Env → M (Env × Bool)) (body : Env → M Out) : Nat → Env → M Out
  | 0, _ => .bad
  | k + 1, e => (c e).bind fun p => if p.2 = true then (body p.1).bind fun o => match o with
      | .nx e' => whileM c body k e'
      | .ct e' => whileM c body k e'
      | .bk e' => .ret (.nx e')
      | .rt r => .ret (.rt r)
    else .ret (.nx p.1)
theorem ss_while {tc : TT} {tb : TS} {c : Env → M (Env × Bool)} {body : Env → M Out} (k : Nat) (hc : ST K f W tc c) (hb : SS K f W tb body) : SS K f W (tWhile tc tb) (whileM c body k) := fun n e G H σ D X s xw w => by
  refine ⟨fun m σ' H' => ∃ n' e' G', Ex G G' ∧ Sem K f n' [] e' G' H' σ' ∧ wp (whileM c body m e') n' (PO K f G D) X, ⟨k, n, e, G, Ex.refl G, s, w⟩, ?_⟩
  rintro m σ' H' ⟨n', e', G', eg, s', w'⟩
  cases m with
  | zero => exact w'.elim
  | succ m =>
    refine hc n' [] e' G' H' σ' _ X s' xw (wp_imp (wpb w') fun n1 p w1 G1 H1 x1 s1 => ?_)
    cases q : p.2 with
    | true =>
      rw [if_pos q] at w1
      refine ⟨fun σ2 H2 => ∃ n' e' G', Ex G G' ∧ Sem K f n' [] e' G' H2 σ2 ∧ wp (whileM c body m e') n' (PO K f G D) X, fun σ2 H2 h => ⟨m, Nat.lt_succ_self m, h⟩, ?_⟩
      refine hb n1 p.1 G1 H1 σ' _ X s1 xw (wp_imp (wpb w1) fun n4 o w4 => ?_)
      cases o with
      | nx e4 => exact fun σ4 G4 H4 x4 s4 => ⟨n4, e4, G4, (eg.trans x1).trans x4, s4, w4⟩
      | ct e4 => exact fun σ4 G4 H4 x4 s4 => ⟨n4, e4, G4, (eg.trans x1).trans x4, s4, w4⟩
      | bk e4 => exact fun σ4 G4 H4 x4 s4 => w4 σ4 G4 H4 ((eg.trans x1).trans x4) s4
      | rt r => exact fun v G4 H4 x4 s4 => w4 v G4 H4 ((eg.trans x1).trans x4) s4
    | false =>
      rw [if_neg (by rw [q]; exact Bool.false_ne_true)] at w1
      exact w1 σ' G1 H1 (eg.trans x1) s1
end
end Ev

namespace Ev
open PySem L2 Evl Dl
/-! ### comprehensions -/
def noRz {α : Type} : M α → M α
  | .ret a => .ret a
  | .draw m k => .draw m fun r => noRz (k r)
  | .rz _ _ => .bad
  | .bad => .bad
theorem wp_noRz {α : Type} {P : Nat → α → Prop} {X : Nat → Env → Addr → Prop} : ∀ {m : M α} {n : Nat}, wp (noRz m) n P X → wp m n P (fun _ _ _ => False)
  | .ret a, n, h => h
  | .draw m g, n, h => ⟨h.1, h.2.1, h.2.2.1, fun r h0 h1 => wp_noRz (h.2.2.2 r h0 h1)⟩
  | .rz e C, n, h => h
  | .bad, n, h => h
abbrev wNo : WX := fun _ _ _ _ => False
def wipeS (e : Env) : List Nat → Env
  | [] => e
  | v :: vs => (wipeS e vs).set v .no
/-- the slots vs as they were -/
def backS (e0 : Env) (e : Env) : List Nat → Env
  | [] => e
  | v :: vs => match e0[v]? with
    | some x => (backS e0 e vs).set v x
    | none => backS e0 e vs
def noLive (e : Env) : List Nat → Bool
  | [] => true
  | v :: vs => (match e[v]? with
    | some (.live _) => false
    | _ => true) && noLive e vs
def lcL (b : Item → Env → Option Env) (t : Env → M (Env × Bool)) (el : Env → M (Env × Dv)) (vs : List Nat) : List Item → List Tr → Env → M (Env × Dv)
  | [], acc, e => .ret (e, .fr acc)
  | it :: its, acc, e => if noLive e vs = true ∧ acc.length < 90000 then match b it (wipeS e vs) with
    | none => .bad
    | some e2 => (noRz (t e2)).bind fun p => if p.2 = true then (noRz (el p.1)).bind fun q => match forceD q.1 q.2 with
        | some (e5, x) => lcL b t el vs its (acc ++ [x]) (backS e e5 vs)
        | none => .bad
      else lcL b t el vs its acc (backS e p.1 vs)
    else .bad
def eLc (it : Env → M (Env × List Item)) (b : Item → Env → Option Env) (t : Env → M (Env × Bool)) (el : Env → M (Env × Dv)) (vs : List Nat) : Env → M (Env × Dv) := fun e => (it e).bind fun p => lcL b t el vs p.2 [] p.1
section
variable {K : PySem.W.Frag} {f : Fx} {W : WX} {G G' H H' : Hp} {n n' : Nat} {σ σ' : St} {e e' : Env} {o r tm tmp : List (Addr × List En)} {ds : List Dv}
theorem Sem.wipe (s : Sem K f n tmp e G H σ) : ∀ vs : List Nat, Sem K f n tmp (wipeS e vs) G H (L2.wipe σ vs)
  | [] => s
  | v :: vs => by
    unfold L2.wipe wipeS
    exact (Sem.wipe s vs).putN
/-- a slot as it was -/
theorem Sem.back1 {i : Nat} {x : Slot} {n' : Nat} {tmp' : List (Addr × List En)} (s : Sem K f n tmp e G H σ) (s' : Sem K f n' tmp' e' G' H' σ') (eg : Ex G G') (hx : e[i]? = some x) (nl : ∀ ts, x ≠ .live ts) (v : Option V) (hv : σ[i]? = some v) : Sem K f n' tmp' (e'.set i x) G' H' (σ'.set i v) := by
  obtain ⟨o, re, j⟩ := s
  cases x with
  | no => exact s'.putN
  | t y =>
    obtain ⟨u, q1, q2⟩ := re.getT hx
    rw [hv] at q1
    cases q1
    exact s'.putT (q2.mono eg)
  | live ts => exact absurd rfl (nl ts)
  | vv u =>
    have q1 := re.getV hx
    rw [hv] at q1
    cases q1
    exact s'.putV
  | pu =>
    obtain ⟨p, c, q1, q2⟩ := re.getP hx
    rw [hv] at q2
    cases q2
    exact s'.putP q1
theorem wipe_len (σ : St) : ∀ vs : List Nat, (L2.wipe σ vs).length = σ.length
  | [] => rfl
  | v :: vs => by unfold L2.wipe; rw [List.length_set, wipe_len σ vs]
/-- the outer frame behind a turn: σ' is σ but for vs -/
def backV (σ : St) (σ' : St) : List Nat → St
  | [] => σ'
  | v :: vs => match σ[v]? with
    | some x => (backV σ σ' vs).set v x
    | none => backV σ σ' vs
theorem Sem.back (s : Sem K f n tmp e G H σ) (eg : Ex G G') {n' : Nat} {tmp' : List (Addr × List En)} (s' : Sem K f n' tmp' e' G' H' σ') : ∀ vs : List Nat, noLive e vs = true → Sem K f n' tmp' (backS e e' vs) G' H' (backV σ σ' vs)
  | [], _ => s'
  | v :: vs, h => by
    unfold noLive at h
    obtain ⟨h1, h2⟩ := Bool.and_eq_true_iff.mp h
    have ih := Sem.back s eg s' vs h2
    have hl : σ.length = e.length := by
      obtain ⟨o, re, _⟩ := s
      exact re.len
    unfold backS backV
    cases q : e[v]? with
    | none =>
      have : σ[v]? = none := by
        rw [List.getElem?_eq_none_iff] at q ⊢
        omega
      rw [this]
      exact ih
    | some x =>
      cases q2 : σ[v]? with
      | none =>
        rw [List.getElem?_eq_none_iff] at q2
        have := (List.getElem?_eq_some_iff.mp q).1
        omega
      | some y =>
        refine Sem.back1 s ih eg q (fun ts z => ?_) y q2
        rw [q, z] at h1
        cases h1
theorem wipe_get {σ : St} : ∀ {vs : List Nat} {k : Nat}, k ∉ vs → (L2.wipe σ vs)[k]? = σ[k]?
  | [], k, _ => rfl
  | v :: vs, k, h => by
    unfold L2.wipe
    rw [List.getElem?_set_ne (fun q => h (by rw [q]; exact List.mem_cons_self ..)), wipe_get fun q => h (List.mem_cons_of_mem _ q)]
theorem backV_len {σ σ' : St} : ∀ vs : List Nat, (backV σ σ' vs).length = σ'.length
  | [] => rfl
  | v :: vs => by
    unfold backV
    split
    · rw [List.length_set, backV_len vs]
    · exact backV_len vs
theorem backV_get {σ σ' : St} (len : σ'.length = σ.length) : ∀ (vs : List Nat) (k : Nat), (backV σ σ' vs)[k]? = if k ∈ vs then σ[k]? else σ'[k]?
  | [], k => by simp [backV]
  | v :: vs, k => by
    have ih := backV_get len vs k
    unfold backV
    by_cases hv : v = k
    · subst hv
      rw [if_pos (List.mem_cons_self ..)]
      cases q : σ[v]? with
      | some x =>
        show ((backV σ σ' vs).set v x)[v]? = some x
        have := (List.getElem?_eq_some_iff.mp q).1
        rw [List.getElem?_set_self (by rw [backV_len]; omega)]
      | none =>
        show (backV σ σ' vs)[v]? = none
        rw [ih]
        split
        · exact q
        · rw [List.getElem?_eq_none_iff] at q ⊢
          omega
    · have hm : (k ∈ v :: vs) = (k ∈ vs) := by
        rw [List.mem_cons]
        exact propext ⟨fun h => h.resolve_left (fun z => hv z.symm), .inr⟩
      rw [show (if k ∈ v :: vs then σ[k]? else σ'[k]?) = if k ∈ vs then σ[k]? else σ'[k]? by simp only [hm], ← ih]
      split
      · rw [List.getElem?_set_ne hv]
      · rfl
theorem back_wipe {σ σ' : St} {vs : List Nat} (h : L2.wipe σ' vs = L2.wipe σ vs) : backV σ σ' vs = σ := by
  have len : σ'.length = σ.length := by
    have := congrArg List.length h
    rw [wipe_len, wipe_len] at this
    exact this
  apply List.ext_getElem?
  intro k
  rw [backV_get len]
  split
  · rfl
  · rename_i hk
    rw [← wipe_get (σ := σ') hk, h, wipe_get hk]
def GW (g : TG) (vs : List Nat) : Prop := ∀ v σ H (Q : St → Hp → Prop), g v (L2.wipe σ vs) H (fun σ2 H2 => L2.wipe σ2 vs = L2.wipe σ vs → Q σ2 H2) → g v (L2.wipe σ vs) H (fun σ2 H2 => L2.wipe σ2 vs = L2.wipe σ vs ∧ Q σ2 H2)
theorem gw_name {i : Nat} : GW (gName i) [i] := fun v σ H Q h => ⟨wipe1, h wipe1⟩
theorem gw_two {i j : Nat} (hn : i ≠ j) : GW (gTup K 2 (gCons (gName i) (gCons (gName j) gNil))) [i, j] := fun v σ H Q h => by
  obtain ⟨a, xs, h1, h2, h3, x, r, rfl, y, r2, rfl, rfl, h⟩ := h
  exact ⟨a, _, h1, h2, h3, x, _, rfl, y, _, rfl, rfl, wipe2 hn, h (wipe2 hn)⟩
theorem se_lc {wi : TI} {g : TG} {tt : TT} {te : TE} {it : Env → M (Env × List Item)} {b : Item → Env → Option Env} {t : Env → M (Env × Bool)} {el : Env → M (Env × Dv)} {vs : List Nat} (hi : SI K f W wi it) (hg : SG K f g b) (ht : ST K f wNo tt t) (he : SE K f wNo te el) (hw : GW g vs) : SE K f W (tLc wi g tt te vs) (eLc it b t el vs) := fun n tmp e G H σ Q X s xw w => by
  refine hi n tmp e G H σ _ X s xw (wp_imp (wpb w) fun n1 p w1 G1 H1 J x1 s1 io => ?_)
  obtain ⟨e1, its⟩ := p
  dsimp only at w1 s1 io
  intro D hD
  have s0 : Sem K f n1 ((D, ([] : List Tr).map (enT K)) :: tmp) e1 G1 (upd H1 D (.lst [])) σ := by
    obtain ⟨o, re, j⟩ := s1
    exact ⟨o, re, j.ownNew hD .nil⟩
  refine ⟨fun i m H' => m = its.length - i ∧ ∃ n' e' G' acc, Ex G1 G' ∧ Sem K f n' ((D, acc.map (enT K)) :: tmp) e' G' H' σ ∧ wp (lcL b t el vs (its.drop i) acc e') n' (fun n' r => ∀ v G' H', Ex G G' → SV K f n' tmp r.1 G' H' σ r.2 v → Q v H') X, ⟨_, rfl, n1, e1, G1, [], Ex.refl G1, s0, w1⟩, ?_⟩
  rintro i m H' ⟨rfl, n', e', G', acc, eg, s', w'⟩
  by_cases hlt : i < its.length
  · have hx : its[i]? = some its[i] := List.getElem?_eq_getElem hlt
    have hd : its.drop i = its[i] :: its.drop (i + 1) := List.drop_eq_getElem_cons hlt
    obtain ⟨h1, h2⟩ := io.2 i its[i] H' (eg.trans s'.ex) hx
    refine .inr ⟨h1, fun H2 => ∃ n' e' G' acc, Ex G1 G' ∧ Sem K f n' ((D, acc.map (enT K)) :: tmp) e' G' H2 σ ∧ wp (lcL b t el vs (its.drop (i + 1)) acc e') n' (fun n' r => ∀ v G' H', Ex G G' → SV K f n' tmp r.1 G' H' σ r.2 v → Q v H') X, fun H2 h => ⟨_, by omega, rfl, h⟩, fun x H2 yl => ?_⟩
    obtain ⟨gr, yr⟩ := h2 x H2 yl
    rw [hd] at w'
    unfold lcL at w'
    split at w'
    · rename_i hnl
      cases q : b its[i] (wipeS e' vs) with
      | none => simp only [q] at w'; exact w'.elim
      | some e2 =>
        simp only [q] at w'
        have yr' : YR K G' H2 x its[i] := by
          revert yr
          cases its[i] with
          | one t => exact fun h => h.mono eg
          | two t u => exact fun ⟨T, x, y, a1, a2, a3, a4⟩ => ⟨T, x, y, a1, a2, a3.mono eg, a4.mono eg⟩
        have sg := s'.grow gr
        refine hw x σ H2 _ (hg n' _ (wipeS e' vs) G' H2 (L2.wipe σ vs) x its[i] e2 _ (Sem.wipe sg vs) yr' q fun σ3 s3 wz => ?_)
        have noX : XW K f wNo (fun _ _ _ => False) := fun _ _ _ _ _ _ _ _ _ z _ => z
        refine ht n' _ e2 G' H2 σ3 _ _ s3 noX (wp_imp (wp_noRz (wpb w')) fun n4 p4 w4 G4 H4 x4 s4 => ?_)
        cases q4 : p4.2 with
        | true =>
          rw [if_pos q4] at w4
          rw [if_pos rfl]
          refine he n4 _ p4.1 G4 H4 σ3 _ _ s4 noX (wp_imp (wp_noRz (wpb w4)) fun n5 p5 w5 v G5 H5 x5 s5 => ?_)
          cases q5 : forceD p5.1 p5.2 with
          | none => simp only [q5] at w5; exact w5.elim
          | some z =>
            obtain ⟨e6, x6⟩ := z
            simp only [q5] at w5
            obtain ⟨G6, x6', s6, tp⟩ := force_ok s5 q5
            obtain ⟨o6, re6, j6⟩ := s6
            obtain ⟨xs, hD6, al6⟩ := own_tp j6 (List.mem_append_left _ (List.mem_cons_self ..))
            refine ⟨xs, hD6, sz_lt (by rw [al6.len]; omega), n5, _, G6, acc ++ [x6], ((eg.trans x4).trans x5).trans x6', ?_, w5⟩
            have s7 : Sem K f n5 ((D, (acc ++ [x6]).map (enT K)) :: tmp) e6 G6 (upd H5 D (.lst (xs ++ [v]))) σ3 := by
              refine ⟨o6, re6, ?_⟩
              have := (show Dl.J K f ⟨n5, (D, acc.map (enT K)) :: (tmp ++ o6)⟩ G6 H5 from j6).ownSet (xs := xs ++ [v]) (es' := (acc ++ [x6]).map (enT K)) (vs_of (al6.cat (.cons tp .nil)))
              exact this
            have s8 := Sem.back s' ((x4.trans x5).trans x6') s7 vs hnl.1
            rw [back_wipe wz] at s8
            exact s8
        | false =>
          rw [if_neg (by rw [q4]; exact Bool.false_ne_true)] at w4
          rw [if_neg Bool.false_ne_true]
          have s8 := Sem.back s' x4 s4 vs hnl.1
          rw [back_wipe wz] at s8
          exact ⟨n4, _, G4, acc, eg.trans x4, s8, w4⟩
    · exact w'.elim
  · rw [List.drop_eq_nil_of_le (by omega)] at w'
    obtain ⟨o, re, j⟩ := s'
    exact .inl ⟨io.1 i H' (eg.trans j.ex) (by omega), w' (.ref D) G' H' (x1.trans eg) ⟨[(D, acc.map (enT K))], .fr .nil, o, re, j⟩⟩
end
end Ev

namespace Ev
open PySem L2 Evl Dl
/-! ### defs -/
def reRz {α : Type} (e : Env) : M α → M α
  | .ret a => .ret a
  | .draw m k => .draw m fun r => reRz e (k r)
  | .rz _ C => .rz e C
  | .bad => .bad
theorem wp_reRz {α : Type} {e : Env} {P : Nat → α → Prop} {X : Nat → Env → Addr → Prop} : ∀ {m : M α} {n : Nat}, wp (reRz e m) n P X ↔ wp m n P (fun n _ C => X n e C)
  | .ret a, n => Iff.rfl
  | .draw m g, n => by
    constructor
    · rintro ⟨a, b, c, d⟩
      exact ⟨a, b, c, fun r h0 h1 => wp_reRz.mp (d r h0 h1)⟩
    · rintro ⟨a, b, c, d⟩
      exact ⟨a, b, c, fun r h0 h1 => wp_reRz.mpr (d r h0 h1)⟩
  | .rz e C, n => Iff.rfl
  | .bad, n => Iff.rfl
def spE (K : PySem.W.Frag) (F : List Slot → M Rv) (k : Nat) : Sp := fun vs H Q E => vs.length = k ∧ ∃ pu n G ss, J K ⟨pu, H, G⟩ ⟨n, []⟩ G H ∧ AOk K pu G vs ss ∧
  wp (F ss) n (fun n' r => ∀ v G2 H2, RVok K ⟨pu, H, G⟩ n' G2 H2 r v → Q v H2) (fun n' _ C => ∀ G2 H2 d, J K ⟨pu, H, G⟩ ⟨n', []⟩ G2 H2 → XO G2 C d → E (.ref (xCls C)) d H2)
/-- behind a call: what it gave, and which names are data now -/
def retD (e1 e2 : Env) : Rv → M (Env × Dv)
  | .t x => .ret (if scalT x = true then e1 else e2, .t x)
  | .fr ts => .ret (e2, .fr ts)
def evCall (F : List Slot → M Rv) (k : Nat) (a : Env → M (Env × List Dv)) : Env → M (Env × Dv) := fun e => (a e).bind fun p => match slotsOf p.1 p.2 with
  | none => .bad
  | some (e2, ss) => if ss.length = k then (reRz p.1 (F ss)).bind (retD p.1 e2) else .bad
section
variable {K : PySem.W.Frag} {f : Fx} {W : WX} {G G' H H' G2 H2 : Hp} {n m : Nat} {σ : St} {e e' : Env} {o r s tm tmp : List (Addr × List En)} {ds : List Dv} {vs : List V}
theorem J.leaveF (j : J K f ⟨n, r⟩ G H) (k : J K ⟨f.pu, H, G⟩ ⟨m, s⟩ G2 H2) : J K f ⟨m, s ++ r⟩ G2 H2 := by
  have some_ne : ∀ {D : Addr} {xs : List V}, H D = some (.lst xs) → ¬ H D = none := fun h z => by rw [h] at z; cases z
  refine ⟨k.ex, fun D es mm => ?_, ?_, fun p c hp => ?_, fun b ob h1 h2 => k.fr b ob h1 (j.fr b ob h1 h2), j.g0.trans k.g0, fun b h1 h2 => ?_, k.tf⟩
  · rcases List.mem_append.mp mm with mm | mm
    · obtain ⟨a1, a2, a3, xs, a4, a5⟩ := k.own D es mm
      refine ⟨a1, ?_, a3, xs, a4, a5⟩
      cases q : f.H0 D with
      | none => rfl
      | some ob =>
        have := j.fr D ob a3 q
        rw [show H D = none from a2] at this
        cases this
    · obtain ⟨a1, a2, a3, xs, a4, a5⟩ := j.own D es mm
      refine ⟨?_, a2, a3, xs, k.fr D _ a3 a4, a5.mono k.g0⟩
      cases q : G2 D with
      | none => rfl
      | some ob =>
        have := k.fs D (by rw [q]; simp) a1
        exact absurd this (some_ne a4)
  · rw [List.map_append]
    refine List.nodup_append.mpr ⟨k.nd, j.nd, fun a ha b hb z => ?_⟩
    subst z
    obtain ⟨⟨D, es⟩, h1, rfl⟩ := List.mem_map.mp ha
    obtain ⟨⟨D', es'⟩, h2, e2⟩ := List.mem_map.mp hb
    have e2' : D' = D := e2
    subst e2'
    obtain ⟨_, a2, _⟩ := k.own D' es h1
    obtain ⟨_, _, _, xs, a4, _⟩ := j.own D' es' h2
    exact some_ne a4 a2
  · obtain ⟨a1, a2, a3, a4, a5⟩ := j.pu p c hp
    obtain ⟨b1, b2, _, _, b5⟩ := k.pu p c hp
    exact ⟨b1, b2, a3, a4, b5⟩
  · cases q : G b with
    | some ob => exact j.fs b (by rw [q]; simp) h2
    | none =>
      have hb := k.fs b h1 q
      cases z : f.H0 b with
      | none => rfl
      | some ob =>
        by_cases hp : isPu f b
        · obtain ⟨p, c, e1, e2⟩ := hp
          obtain ⟨_, _, a3, a4, ⟨cs, t, x, y, _⟩⟩ := j.pu p c e1
          rcases e2 with e2 | e2
          · rw [e2] at hb
            rw [show H p = none from hb] at x
            cases x
          · rw [e2] at hb
            rw [show H c = none from hb] at y
            cases y
        · have := j.fr b ob hp z
          rw [show H b = none from hb] at this
          cases this
/-- .. with the data as it was -/
theorem J.leaveS {G1 : Hp} (j : J K f ⟨n, r⟩ G H) (k : J K ⟨f.pu, H, G1⟩ ⟨m, s⟩ G2 H2) : J K f ⟨m, r⟩ G H2 := by
  have np : ∀ {b : Addr} {ob : HO}, G b = some ob → ¬ isPu f b := fun {b ob} h ⟨p, c, e1, e2⟩ => by
    obtain ⟨a1, a2, _⟩ := j.pu p c e1
    rcases e2 with e2 | e2
    · rw [e2, a1] at h; cases h
    · rw [e2, a2] at h; cases h
  refine ⟨fun b ob h => k.fr b ob (np h) (j.ex b ob h), fun D es mm => ?_, j.nd, fun p c hp => ?_, fun b ob h1 h2 => k.fr b ob h1 (j.fr b ob h1 h2), j.g0, j.fs, j.tf⟩
  · obtain ⟨a1, a2, a3, xs, a4, a5⟩ := j.own D es mm
    exact ⟨a1, a2, a3, xs, k.fr D _ a3 a4, a5⟩
  · obtain ⟨a1, a2, a3, a4, a5⟩ := j.pu p c hp
    obtain ⟨_, _, _, _, b5⟩ := k.pu p c hp
    exact ⟨a1, a2, a3, a4, b5⟩
theorem J.adopt {G1 G3 H3 : Hp} {n2 : Nat} {r2 : List (Addr × List En)} {C : Nat} {d : Option Addr} (j : J K f ⟨n, r⟩ G H) (x2 : Ex G G1) (j2 : J K f ⟨n2, r2⟩ G1 H) (k : J K ⟨f.pu, H, G1⟩ ⟨m, s⟩ G3 H3) (xo : XO G3 C d) : ∃ G', Ex G G' ∧ J K f ⟨m, r⟩ G' H3 ∧ XO G' C d := by
  have jl := J.leaveS j k
  rcases xo with ⟨l, rfl⟩ | ⟨l, a, rfl, ha⟩
  · exact ⟨G, Ex.refl G, jl, .inl ⟨l, rfl⟩⟩
  have h3 := k.ex _ _ ha
  cases q : G a with
  | some ob =>
    have e := k.g0 _ _ (x2 _ _ q)
    rw [ha] at e
    cases e
    exact ⟨G, Ex.refl G, jl, .inr ⟨l, a, rfl, q⟩⟩
  | none =>
    have g0 : f.G0 a = none := by
      cases z : f.G0 a with
      | none => rfl
      | some ob =>
        have := j.g0 _ _ z
        rw [q] at this
        cases this
    have notp : ¬ isPu f a := fun ⟨p, c, e1, e2⟩ => by
      obtain ⟨_, _, _, _, b5⟩ := jl.pu p c e1
      obtain ⟨cs, t, y1, y2, _⟩ := id b5.ex
      rcases e2 with e2 | e2
      · rw [e2, y1] at h3; cases h3
      · rw [e2, y2] at h3; cases h3
    have h0 : f.H0 a = none := by
      cases z : G1 a with
      | some ob => exact j2.fs a (by rw [z]; simp) g0
      | none =>
        have hn : H a = none := k.fs a (by rw [ha]; simp) z
        cases y : f.H0 a with
        | none => rfl
        | some ob =>
          have := j.fr a ob notp y
          rw [hn] at this
          cases this
    have ex : Ex G (upd G a (.xd [(xFld C, .int (xRow C))])) := Ex.new q
    refine ⟨upd G a (.xd [(xFld C, .int (xRow C))]), ex, ⟨fun b ob h => ?_, fun D es mm => ?_, jl.nd, fun p c hp => ?_, jl.fr, jl.g0.trans ex, fun b h1 h2 => ?_, jl.tf.upd trivial⟩, .inr ⟨l, a, rfl, upd_same⟩⟩
    · by_cases hb : b = a
      · subst hb
        rw [upd_same] at h
        cases h
        exact h3
      · rw [upd_ne hb] at h
        exact jl.ex b ob h
    · obtain ⟨a1, a2, a3, xs, a4, a5⟩ := jl.own D es mm
      have ne : D ≠ a := fun z => by
        subst z
        rw [h3] at a4
        cases a4
      exact ⟨by rw [upd_ne ne]; exact a1, a2, a3, xs, a4, a5.mono ex⟩
    · obtain ⟨a1, a2, a3, a4, a5⟩ := jl.pu p c hp
      have n1 : p ≠ a := fun z => notp ⟨p, c, hp, .inl z.symm⟩
      have n2 : c ≠ a := fun z => notp ⟨p, c, hp, .inr z.symm⟩
      exact ⟨by rw [upd_ne n1]; exact a1, by rw [upd_ne n2]; exact a2, a3, a4, a5⟩
    · by_cases hb : b = a
      · subst hb
        exact h0
      · rw [upd_ne hb] at h1
        exact jl.fs b h1 h2
theorem AOk.len {pu : Option (Addr × Addr)} {ss : List Slot} (h : AOk K pu G vs ss) : vs.length = ss.length := by
  induction h with
  | nil => rfl
  | t _ _ ih => simp [ih]
  | vv _ ih => simp [ih]
  | pu _ _ ih => simp [ih]
theorem scal_any {x : Tr} {v : V} (h : Tp K G v x) (q : scalT x = true) : Tp K G' v x := by
  cases h with
  | non => exact .non
  | bl b => exact .bl b
  | int b => exact .int b
  | str b => exact .str b
  | _ => cases q
theorem call_ok {F : List Slot → M Rv} {k : Nat} {ss : List Slot} {e2 : Env} {Q : VK} {X : Nat → Env → Addr → Prop} (svs : SVs K f n tmp e G H σ ds vs) (q : slotsOf e ds = some (e2, ss)) (hk : ss.length = k) (xw : XW K f W X)
    (w : wp ((reRz e (F ss)).bind (retD e e2)) n (fun n' r => ∀ v G' H', Ex G G' → SV K f n' tmp r.1 G' H' σ r.2 v → Q v H') X) : spE K F k vs H Q (WE W σ) := by
  obtain ⟨G2, x2, s2, ak⟩ := slots_ok svs q
  obtain ⟨o2, re2, j2⟩ := s2
  obtain ⟨tm, dk, o1, re1, j1⟩ := svs
  refine ⟨?_, f.pu, n, G2, ss, J.enter j2, ak, ?_⟩
  · rw [ak.len]
    exact hk
  refine wp_mono (fun n' r hr => ?_) (fun n' e' C hx => ?_) (wp_reRz.mp (wpb w))
  · intro v G3 H3 rv
    cases r with
    | t x =>
      obtain ⟨k3, tp⟩ := rv
      have hr' : ∀ (v : V) (G' H' : Hp), Ex G G' → SV K f n' tmp (if scalT x = true then e else e2) G' H' σ (.t x) v → Q v H' := hr
      cases hs : scalT x with
      | true =>
        rw [hs, if_pos rfl] at hr'
        refine hr' v G H3 (Ex.refl G) (sv_t (Sem.drop (tm := tm) ⟨o1, re1, J.leaveS j1 k3⟩) (scal_any tp hs))
      | false =>
        rw [hs, if_neg Bool.false_ne_true] at hr'
        exact hr' v G3 H3 (x2.trans k3.g0) (sv_t ⟨o2, re2.mono k3.g0, J.leaveF (s := []) (r := tmp ++ o2) j2 k3⟩ tp)
    | fr ts =>
      obtain ⟨D, rfl, k3⟩ := rv
      have hr' : ∀ (v : V) (G' H' : Hp), Ex G G' → SV K f n' tmp e2 G' H' σ (.fr ts) v → Q v H' := hr
      exact hr' _ G3 H3 (x2.trans k3.g0) ⟨[(D, ts.map (enT K))], .fr .nil, o2, re2.mono k3.g0, J.leaveF (s := [(D, ts.map (enT K))]) (r := tmp ++ o2) j2 k3⟩
  · intro G3 H3 d k3 xo
    obtain ⟨G4, x4, j4, xo4⟩ := J.adopt j1 x2 j2 k3 xo
    exact xw n' (tm ++ tmp) e G4 H3 σ C d ⟨o1, re1.mono x4, j4⟩ hx xo4
theorem se_call {F : List Slot → M Rv} {k : Nat} {ta : TA} {a : Env → M (Env × List Dv)} (ha : SA K f W ta a) : SE K f W (tCallS (spE K F k) (WE W) ta) (evCall F k a) := fun n tmp e G H σ Q X s xw w => by
  refine ha n tmp e G H σ _ X s xw (wp_imp (wpb w) fun n1 p w1 vs G1 H1 x1 svs => ?_)
  cases q : slotsOf p.1 p.2 with
  | none => simp only [q] at w1; exact w1.elim
  | some z =>
    obtain ⟨e2, ss⟩ := z
    simp only [q] at w1
    split at w1
    · rename_i hk
      exact call_ok svs q hk xw (wp_imp w1 fun n' r hr v G' H' x => hr v G' H' (x1.trans x))
    · exact w1.elim
/-- f(.., k = ..): g tells the order -/
def evCallK (F : List Slot → M Rv) (k : Nat) (g : List Dv → List Dv → List Dv) (a b : Env → M (Env × List Dv)) : Env → M (Env × Dv) := fun e => (a e).bind fun p => (b p.1).bind fun p2 => match slotsOf p2.1 (g p.2 p2.2) with
  | none => .bad
  | some (e2, ss) => if ss.length = k then (reRz p2.1 (F ss)).bind (retD p2.1 e2) else .bad
def SubP (a b : List (Addr × List En)) : Prop := ∃ l : List (Addr × List En), l.Perm a ∧ l.Sublist b
/-- g puts things in order, the same for values -/
def KG (gV : List V → List V → List V) (gD : List Dv → List Dv → List Dv) : Prop := ∀ (K : PySem.W.Frag) (f : Fx) (G : Hp) (σ : St) (ds es : List Dv) (vs zs : List V) (tm tm2 : List (Addr × List En)), DsOk K f G σ ds vs tm → DsOk K f G σ es zs tm2 → ∃ tm3, DsOk K f G σ (gD ds es) (gV vs zs) tm3 ∧ SubP tm3 (tm ++ tm2)
theorem sub_perm {r r' : List (Addr × List En)} (j : J K f ⟨n, r⟩ G H) (s : SubP r' r) : J K f ⟨n, r'⟩ G H := by
  obtain ⟨l, p, sl⟩ := s
  exact jperm (jsub j sl) p
theorem se_callK {F : List Slot → M Rv} {k : Nat} {ta tk : TA} {gV : List V → List V → List V} {gD : List Dv → List Dv → List Dv} {a b : Env → M (Env × List Dv)} (hg : KG gV gD) (ha : SA K f W ta a) (hb : SA K f W tk b) : SE K f W (tCallKS (spE K F k) gV (WE W) ta tk) (evCallK F k gD a b) := fun n tmp e G H σ Q X s xw w => by
  refine ha n tmp e G H σ _ X s xw (wp_imp (wpb w) fun n1 p w1 vs G1 H1 x1 svs => ?_)
  obtain ⟨tm, dk, s1⟩ := svs
  refine hb n1 (tm ++ tmp) p.1 G1 H1 σ _ X s1 xw (wp_imp (wpb w1) fun n2 p2 w2 zs G2 H2 x2 svs2 => ?_)
  obtain ⟨tm2, dk2, o2, re2, j2⟩ := svs2
  obtain ⟨tm3, dk3, sp⟩ := hg K f G2 σ _ _ _ _ _ _ (dk.mono x2) dk2
  have svs3 : SVs K f n2 tmp p2.1 G2 H2 σ (gD p.2 p2.2) (gV vs zs) := by
    refine ⟨tm3, dk3, o2, re2, ?_⟩
    have h1 : (tm ++ tm2 ++ (tmp ++ o2)).Perm (tm2 ++ (tm ++ tmp) ++ o2) := by
      have : (tm ++ tm2 ++ tmp).Perm (tm2 ++ (tm ++ tmp)) := by
        rw [← List.append_assoc]
        exact List.Perm.append_right tmp List.perm_append_comm
      rw [← List.append_assoc]
      exact List.Perm.append_right o2 this
    obtain ⟨l, pl, sl⟩ := sp
    refine jperm (jsub (jperm j2 h1.symm) (r' := l ++ (tmp ++ o2)) (List.Sublist.append_right sl _)) ?_
    rw [List.append_assoc]
    exact List.Perm.append_right _ pl
  cases q : slotsOf p2.1 (gD p.2 p2.2) with
  | none => simp only [q] at w2; exact w2.elim
  | some z =>
    obtain ⟨e2, ss⟩ := z
    simp only [q] at w2
    split at w2
    · rename_i hk
      exact call_ok svs3 q hk xw (wp_imp w2 fun n' r hr v G' H' x => hr v G' H' ((x1.trans x2).trans x))
    · exact w2.elim
/-! ### a def's own frame -/
def outRv : Out → M Rv
  | .nx _ => .ret (.t .non)
  | .rt r => .ret r
  | _ => .bad
def fnOf (N : Nat) (body : Env → M Out) : List Slot → M Rv := fun ss => (body (ss ++ List.replicate (N - ss.length) .no)).bind outRv
theorem re_start {pu : Option (Addr × Addr)} {ss : List Slot} (h : AOk K pu G vs ss) (k : Nat) : RE K ⟨pu, H, G⟩ G (vs.map some ++ List.replicate k none) (ss ++ List.replicate k .no) [] := by
  induction h with
  | nil =>
    induction k with
    | zero => exact .nil
    | succ k ih => exact .no ih
  | t a _ ih => exact .t a ih
  | vv _ ih => exact .vv ih
  | pu a _ ih => exact .pu a ih
theorem run_ev {N : List Str} {k : Nat} {body : Env → M Out} {t : TS} {Q : VK} {E : XK} (h : spE K (fnOf N.length body) k vs H Q E) (hb : ∀ f, SS K f (fun cls d _ H' => E cls d H') t body) : t { nx := fun _ H' => Q .non H', rt := Q } (start N vs) H := by
  obtain ⟨_, pu, n, G, ss, j, ak, w⟩ := h
  have s0 : Sem K ⟨pu, H, G⟩ n [] (ss ++ List.replicate (N.length - ss.length) .no) G H (start N vs) := by
    refine ⟨[], ?_, j⟩
    unfold L2.start
    rw [ak.len]
    exact re_start ak _
  refine hb ⟨pu, H, G⟩ n _ G H _ _ (fun n' _ C => ∀ G2 H2 d, J K ⟨pu, H, G⟩ ⟨n', []⟩ G2 H2 → XO G2 C d → E (.ref (xCls C)) d H2) s0 (fun n' tmp e' G2 H2 σ2 C d s2 x xo => ?_) (wp_imp (wpb w) fun n' o w' => ?_)
  · obtain ⟨o, _, j2⟩ := s2
    exact x G2 H2 d (jsub j2 (List.nil_sublist _)) xo
  · cases o with
    | nx e' =>
      intro σ2 G2 H2 x s2
      obtain ⟨o, _, j2⟩ := s2
      exact w' .non G2 H2 ⟨jsub j2 (List.nil_sublist _), .non⟩
    | rt r => exact fun v G2 H2 x rv => w' v G2 H2 rv
    | bk e' => exact w'.elim
    | ct e' => exact w'.elim
theorem spE_len {F : List Slot → M Rv} {k : Nat} (vs : List V) (H : Hp) (Q : VK) (E : XK) (h : spE K F k vs H Q E) : vs.length = k := h.1
/-! ### draws -/
def eDraw (a : Env → M (Env × List Dv)) : Env → M (Env × Dv) := fun e => (a e).bind fun p => match p.2 with
  | [.pu, .t (.int m)] => .draw m fun r => .ret (p.1, .t (.int r))
  | _ => .bad
theorem Sem.drawn {p c : Addr} (s : Sem K f n tmp e G H σ) (hf : f.pu = some (p, c)) (u : PurseAt H' p c m) (k : ∀ b o, b ≠ p → b ≠ c → H b = some o → H' b = some o) : Sem K f m tmp e G H' σ := by
  obtain ⟨o, re, j⟩ := s
  exact ⟨o, re, j.draw hf k u⟩
theorem se_draw {ta : TA} {E : XK} {a : Env → M (Env × List Dv)} (ha : SA K f W ta a) : SE K f W (tCall spDraw [] E ta) (eDraw a) := fun n tmp e G H σ Q X s xw w => by
  refine ha n tmp e G H σ _ X s xw (wp_imp (wpb w) fun n1 p w1 vs G1 H1 x1 svs => ?_)
  obtain ⟨tm, dk, s1⟩ := svs
  obtain ⟨e1, ds⟩ := p
  dsimp only at w1 dk s1
  split at w1
  · rename_i mm
    cases dk with
    | pu hf dk =>
      cases dk with
      | t a dk =>
        cases dk
        cases a
        obtain ⟨h1, h2, h3, h4⟩ := w1
        obtain ⟨k, rfl⟩ : ∃ k, n1 = k + 1 := ⟨n1 - 1, by omega⟩
        obtain ⟨o, re, j⟩ := s1
        rw [List.append_nil]
        refine ⟨_, _, k, mm, rfl, (j.pu _ _ hf).2.2.2.2, h2, h3, fun r H' r0 r1 u kp => ?_⟩
        have := h4 r r0 r1
        exact this _ G1 H' x1 (sv_t (Sem.drawn ⟨o, re, j⟩ hf u kp) (.int r))
  · exact w1.elim
/-! ### methods that change a list of one's own -/
def eLM (g : List Tr → List Tr → Option (List Tr × Tr)) (i : Nat) (a : Env → M (Env × List Dv)) : Env → M (Env × Dv) := fun e => match e[i]? with
  | some (.live _) => (a e).bind fun p => match slotsOf p.1 p.2 with
    | some (e2, ss) => match trsOf ss, e2[i]? with
      | some ys, some (.live ts) => match g ts ys with
        | some (ts', z) => .ret (e2.set i (.live ts'), .t z)
        | none => .bad
      | _, _ => .bad
    | none => .bad
  | _ => .bad
/-- the list at slot i is changed -/
theorem Sem.setL {i : Nat} {ts ts' : List Tr} {D : Addr} {xs : List V} (s : Sem K f n tmp e G H σ) (hi : e[i]? = some (.live ts)) (hv : σ[i]? = some (some (.ref D))) (al : TpAll K G xs ts') : Sem K f n tmp (e.set i (.live ts')) G (upd H D (.lst xs)) σ := by
  obtain ⟨o, re, j⟩ := s
  obtain ⟨o1, o2, _, _, _, _, h5, _, h7⟩ := re.put i
  obtain ⟨D', q1, rfl⟩ := h7 ts hi
  rw [hv] at q1
  cases q1
  have q := h5 (List.getElem?_eq_some_iff.mp hi).1 D ts'
  rw [set_self hv] at q
  refine ⟨_, q, ?_⟩
  have p1 : ∀ c : Addr × List En, (tmp ++ (o1 ++ c :: o2)).Perm (c :: (tmp ++ (o1 ++ o2))) := fun c => by
    rw [← List.append_assoc, ← List.append_assoc]
    exact List.perm_middle
  exact jperm ((jperm j (p1 _)).ownSet (vs_of al)) (p1 _).symm
theorem sem_live {i : Nat} {ts : List Tr} (s : Sem K f n tmp e G H σ) (hi : e[i]? = some (.live ts)) : ∃ D xs, σ[i]? = some (some (.ref D)) ∧ H D = some (.lst xs) ∧ TpAll K G xs ts := by
  obtain ⟨o, re, j⟩ := s
  obtain ⟨o1, o2, _, _, _, _, _, _, h7⟩ := re.put i
  obtain ⟨D, q1, rfl⟩ := h7 ts hi
  obtain ⟨xs, h1, h2⟩ := own_tp (D := D) (ts := ts) (r := tmp ++ (o1 ++ (D, ts.map (enT K)) :: o2)) j (by simp)
  exact ⟨D, xs, q1, h1, h2⟩
def LM (K : PySem.W.Frag) (r : V → List V → Hp → VK → Prop) (g : List Tr → List Tr → Option (List Tr × Tr)) : Prop :=
  ∀ G H D xs ts vs ys ts' z (Q : VK), H D = some (.lst xs) → TpAll K G xs ts → Ex G H → TpAll K G vs ys → g ts ys = some (ts', z) → (∀ xs' v, TpAll K G xs' ts' → Tp K G v z → Q v (upd H D (.lst xs'))) → r (.ref D) vs H Q
theorem lm_core {r : V → List V → Hp → VK → Prop} {g : List Tr → List Tr → Option (List Tr × Tr)} {i : Nat} {ta : TA} {a : Env → M (Env × List Dv)} (hg : LM K r g) (ha : SA K f W ta a) {n tmp e G H σ} {Q : VK} {X : Nat → Env → Addr → Prop} (s : Sem K f n tmp e G H σ) (xw : XW K f W X) (w : wp (eLM g i a e) n (fun n' r => ∀ v G' H', Ex G G' → SV K f n' tmp r.1 G' H' σ r.2 v → Q v H') X) :
    ∃ x, σ[i]? = some (some x) ∧ tyV K "list" x H ∧ ta σ H fun xs H2 => r x xs H2 Q := by
  unfold eLM at w
  cases q : e[i]? with
  | none => simp only [q] at w; exact w.elim
  | some y =>
    cases y with
    | live ts0 =>
      simp only [q] at w
      obtain ⟨D, xs0, hv, hD0, _⟩ := sem_live s q
      refine ⟨_, hv, .inl ⟨rfl, xs0, sq_of hD0⟩, ha n tmp e G H σ _ X s xw (wp_imp (wpb w) fun n1 p w1 vs G1 H1 x1 svs => ?_)⟩
      cases q1 : slotsOf p.1 p.2 with
      | none => simp only [q1] at w1; exact w1.elim
      | some z =>
        obtain ⟨e2, ss⟩ := z
        simp only [q1] at w1
        obtain ⟨G2, x2, s2, ak⟩ := slots_ok svs q1
        split at w1
        · rename_i ys ts q2 q3
          split at w1
          · rename_i ts' zz q4
            obtain ⟨D', xs, hv', hD, al⟩ := sem_live s2 q3
            rw [hv] at hv'
            cases hv'
            exact hg G2 H1 D xs ts vs ys ts' zz Q hD al s2.ex (trs_ok ak q2) q4 fun xs' v a1 a2 => w1 v G2 _ (x1.trans x2) (sv_t (s2.setL q3 hv a1) a2)
          · exact w1.elim
        · exact w1.elim
    | _ => simp only [q] at w; exact w.elim
theorem se_lm {r : V → List V → Hp → VK → Prop} {g : List Tr → List Tr → Option (List Tr × Tr)} {i : Nat} {ta : TA} {a : Env → M (Env × List Dv)} (hg : LM K r g) (ha : SA K f W ta a) : SE K f W (tBM K "list" r (tVar i) ta) (eLM g i a) := fun n tmp e G H σ Q X s xw w => lm_core hg ha s xw w
theorem se_lm0 {r : V → List V → Hp → VK → Prop} {g : List Tr → List Tr → Option (List Tr × Tr)} {i : Nat} (hg : LM K r g) : SE K f W (tBM0 K "list" r (tVar i)) (eLM g i aNil) := fun n tmp e G H σ Q X s xw w => lm_core hg sa_nil s xw w
def gApp : List Tr → List Tr → Option (List Tr × Tr) := fun ts ys => match ys with
  | [y] => if ts.length < 100000 then some (ts ++ [y], .non) else none
  | _ => none
theorem lm_app : LM K rAppend gApp := fun G H D xs ts vs ys ts' z Q hD al x av q k => by
  cases av with
  | nil => cases q
  | cons a av =>
    cases av with
    | cons _ _ => cases q
    | nil =>
      rename_i v y
      have q' : (if ts.length < 100000 then some (ts ++ [y], Tr.non) else none) = some (ts', z) := q
      by_cases hl : ts.length < 100000
      · rw [if_pos hl] at q'
        cases q'
        exact ⟨D, xs, _, rfl, rfl, hD, sz_lt (by rw [al.len]; exact hl), k _ _ (al.cat (.cons a .nil)) .non⟩
      · rw [if_neg hl] at q'
        cases q'
def gPopAt : List Tr → List Tr → Option (List Tr × Tr) := fun ts ys => match ys with
  | [.int i] => if smallI i = true then match seqIndex? i ts.length with
      | some k => match ts[k]? with
        | some y => some (ts.eraseIdx k, y)
        | none => none
      | none => none
    else none
  | _ => none
theorem tpa_erase {xs : List V} {ts : List Tr} (al : TpAll K G xs ts) : ∀ k : Nat, TpAll K G (xs.eraseIdx k) (ts.eraseIdx k) := by
  induction xs generalizing ts with
  | nil => intro k; cases al; exact .nil
  | cons x xs ih =>
    intro k
    cases al with
    | cons a al =>
      cases k with
      | zero => exact al
      | succ k => exact .cons a (ih al k)
theorem lm_popAt : LM K rPopAt gPopAt := fun G H D xs ts vs ys ts' z Q hD al x av q k => by
  unfold gPopAt at q
  split at q
  · rename_i i
    split at q
    · rename_i hi
      split at q
      · rename_i kk q1
        split at q
        · rename_i y q2
          cases q
          cases av with
          | cons a av =>
            cases av
            cases a
            obtain ⟨v, hv, tp⟩ := al.get q2
            have hi := smallI_iff.mp hi
            exact ⟨D, xs, i, kk, v, rfl, rfl, hD, by omega, by omega, by rw [al.len]; exact q1, hv, k _ _ (tpa_erase al kk) tp⟩
        · cases q
      · cases q
    · cases q
  · cases q
def gPop : List Tr → List Tr → Option (List Tr × Tr) := fun ts ys => match ys with
  | [] => match ts[ts.length - 1]? with
    | some y => some (ts.dropLast, y)
    | none => none
  | _ => none
theorem tpa_last {xs : List V} {ts : List Tr} (al : TpAll K G xs ts) : TpAll K G xs.dropLast ts.dropLast := by
  rw [List.dropLast_eq_take, List.dropLast_eq_take, al.len]
  exact al.takeN _
theorem lm_pop : LM K rPop gPop := fun G H D xs ts vs ys ts' z Q hD al x av q k => by
  cases av with
  | cons _ _ => cases q
  | nil =>
    unfold gPop at q
    simp only at q
    split at q
    · rename_i y q2
      cases q
      obtain ⟨v, hv, tp⟩ := al.get q2
      exact ⟨D, xs, v, rfl, rfl, hD, by rw [al.len]; exact hv, k _ _ (tpa_last al) tp⟩
    · cases q
def gClear : List Tr → List Tr → Option (List Tr × Tr) := fun _ ys => match ys with
  | [] => some ([], .non)
  | _ => none
theorem lm_clear : LM K rClear gClear := fun G H D xs ts vs ys ts' z Q hD al x av q k => by
  cases av with
  | cons _ _ => cases q
  | nil =>
    cases q
    exact ⟨D, xs, rfl, rfl, hD, k _ _ .nil .non⟩
def rInsert : V → List V → Hp → VK → Prop := fun x vs H Q => ∃ (l : Addr) (xs : List V) (i : Int) (y : V), x = .ref l ∧ vs = [.int i, y] ∧ H l = some (.lst xs) ∧ xs.length < sizeLine ∧ 0 ≤ i ∧ i < 2 ^ 63 ∧ Q .non (upd H l (.lst (xs.take i.toNat ++ [y] ++ xs.drop i.toNat)))
def gInsert : List Tr → List Tr → Option (List Tr × Tr) := fun ts ys => match ys with
  | [.int i, y] => if ts.length < 100000 ∧ 0 ≤ i ∧ smallI i = true then some (ts.take i.toNat ++ [y] ++ ts.drop i.toNat, .non) else none
  | _ => none
theorem lm_insert : LM K rInsert gInsert := fun G H D xs ts vs ys ts' z Q hD al x av q k => by
  unfold gInsert at q
  split at q
  · rename_i i y
    split at q
    · rename_i hi
      cases q
      cases av with
      | cons a av =>
        cases av with
        | cons b av =>
          cases av
          cases a
          exact ⟨D, xs, i, _, rfl, rfl, hD, sz_lt (by rw [al.len]; exact hi.1), hi.2.1, by have := smallI_iff.mp hi.2.2; omega, k _ _ (((al.takeN _).cat (.cons b .nil)).cat (al.dropN _)) .non⟩
    · cases q
  · cases q
/-- xs[i] = e, xs of one's own -/
def sItem (i : Nat) (a b : Env → M (Env × Dv)) : Env → M Out := fun e => (a e).bind fun p => match forceD p.1 p.2 with
  | some (e2, x) => match e2[i]? with
    | some (.live _) => (b e2).bind fun p3 => match p3.2, p3.1[i]? with
      | .t (.int k), some (.live ts) => match ixN ts.length k with
        | some j => .ret (.nx (p3.1.set i (.live (ts.set j x))))
        | none => .bad
      | _, _ => .bad
    | _ => .bad
  | none => .bad
theorem ss_item {i : Nat} {te tb : TE} {a b : Env → M (Env × Dv)} (ha : SE K f W te a) (hb : SE K f W tb b) : SS K f W (tAsg te (gSub (tVar i) tb rSetL)) (sItem i a b) := fun n e G H σ D X s xw w => by
  refine ha n [] e G H σ _ X s xw (wp_imp (wpb w) fun n1 p w1 v G1 H1 x1 sv => ?_)
  cases q : forceD p.1 p.2 with
  | none => simp only [q] at w1; exact w1.elim
  | some z =>
    obtain ⟨e2, x⟩ := z
    obtain ⟨G2, x2, s2, tp⟩ := force_ok sv q
    simp only [q] at w1
    cases q0 : e2[i]? with
    | none => simp only [q0] at w1; exact w1.elim
    | some y =>
      cases y with
      | live ts0 =>
        simp only [q0] at w1
        obtain ⟨D0, _, hu, _, _⟩ := sem_live s2 q0
        refine ⟨_, hu, hb n1 [] e2 G2 H1 σ _ X s2 xw (wp_imp (wpb w1) fun n3 p3 w3 u3 G3 H3 x3 sv3 => ?_)⟩
        obtain ⟨e3, d3⟩ := p3
        dsimp only at w3 sv3
        split at w3
        · rename_i k ts q3
          split at w3
          · rename_i j q4
            obtain ⟨tk, s3⟩ := sv_t_iff.mp sv3
            cases tk
            obtain ⟨D', xs, hv, hD, al⟩ := sem_live s3 q3
            rw [hu] at hv
            cases hv
            exact ⟨D0, xs, k, j, rfl, rfl, hD, by rw [al.len]; exact q4, w3 σ G3 _ ((x1.trans x2).trans x3) (s3.setL q3 hu (al.setAt j (tp.mono x3)))⟩
          · exact w3.elim
        · exact w3.elim
      | _ => simp only [q0] at w1; exact w1.elim
/-- x += e of ints -/
def sAug (g : Int → Int → Int) (i : Nat) (a : Env → M (Env × Dv)) : Env → M Out := fun e => match e[i]? with
  | some (.t (.int x)) => (a e).bind fun p => match p.2 with
    | .t (.int y) => .ret (.nx (p.1.set i (.t (.int (g x y)))))
    | _ => .bad
  | _ => .bad
theorem ss_aug {g : Int → Int → Int} {i : Nat} {te : TE} {a : Env → M (Env × Dv)} (ha : SE K f W te a) : SS K f W (tAug i te (ipI g)) (sAug g i a) := fun n e G H σ D X s xw w => by
  unfold sAug at w
  split at w
  · rename_i x q
    obtain ⟨o, re, j⟩ := s
    obtain ⟨v, hv, tp⟩ := re.getT q
    cases tp
    refine ⟨_, hv, ha n [] e G H σ _ X ⟨o, re, j⟩ xw (wp_imp (wpb w) fun n1 p w1 u G1 H1 x1 sv => ?_)⟩
    obtain ⟨e1, d⟩ := p
    dsimp only at w1 sv
    split at w1
    · rename_i y
      obtain ⟨tk, s1⟩ := sv_t_iff.mp sv
      cases tk
      exact ⟨x, y, rfl, rfl, w1 _ G1 H1 x1 (s1.putT (.int _))⟩
    · exact w1.elim
  · exact w.elim
/-! ### raise, try -/
def sRaise (C : Addr) : Env → M Out := fun e => .rz e C
theorem ss_raise {C : Addr} (hC : C < 1000000 := by decide) : SS K f W (tRaise W C) (sRaise C) := fun n e G H σ D X s xw w => by
  have := xw n [] e G H σ C none s w (.inl ⟨hC, rfl⟩)
  rw [xCls_small hC] at this
  exact this
def tryM (exm : Addr → Bool) (i j : Nat) : M Out → M Out
  | .ret o => .ret o
  | .draw m k => .draw m fun r => tryM exm i j (k r)
  | .rz e C => if exm C = true then .ret (.nx (((e.set i (.t (.exc C))).set j (.t (.exc C))).set i .no)) else .bad
  | .bad => .bad
def sTry (exm : Addr → Bool) (i j : Nat) (body : Env → M Out) : Env → M Out := fun e => tryM exm i j (body e)
theorem wp_try {exm : Addr → Bool} {i j : Nat} {P : Nat → Out → Prop} {X : Nat → Env → Addr → Prop} : ∀ {m : M Out} {n : Nat}, wp (tryM exm i j m) n P X → wp m n P (fun n e C => exm C = true ∧ P n (.nx (((e.set i (.t (.exc C))).set j (.t (.exc C))).set i .no)))
  | .ret a, n, h => h
  | .draw m g, n, h => ⟨h.1, h.2.1, h.2.2.1, fun r h0 h1 => wp_try (h.2.2.2 r h0 h1)⟩
  | .rz e C, n, h => by
    unfold tryM at h
    split at h
    · rename_i q
      exact ⟨q, h⟩
    · exact h.elim
  | .bad, n, h => h
theorem jin (j : J K f ⟨n, r⟩ G H) : J K ⟨f.pu, f.H0, G⟩ ⟨n, r⟩ G H := ⟨j.ex, j.own, j.nd, j.pu, j.fr, Ex.refl G, fun b h1 h2 => absurd h2 h1, j.tf⟩
theorem jout (j : J K f ⟨n, r⟩ G H) (k : J K ⟨f.pu, f.H0, G⟩ ⟨m, s⟩ G2 H2) : J K f ⟨m, s⟩ G2 H2 := ⟨k.ex, k.own, k.nd, k.pu, k.fr, j.g0.trans k.g0, fun b h1 h2 => by
  cases q : G b with
  | some ob => exact j.fs b (by rw [q]; simp) h2
  | none => exact k.fs b h1 q, k.tf⟩
theorem re_f {f' : Fx} (hf : f'.pu = f.pu) (h : RE K f G σ e o) : RE K f' G σ e o := by
  induction h with
  | nil => exact .nil
  | no _ ih => exact .no ih
  | t a _ ih => exact .t a ih
  | live _ ih => exact .live ih
  | vv _ ih => exact .vv ih
  | pu a _ ih => exact .pu (by rw [hf]; exact a) ih
theorem sem_in (s : Sem K f n tmp e G H σ) : Sem K ⟨f.pu, f.H0, G⟩ n tmp e G H σ := by
  obtain ⟨o, re, j⟩ := s
  exact ⟨o, re_f (f := f) (f' := ⟨f.pu, f.H0, G⟩) rfl re, jin j⟩
theorem sem_out {tmp' : List (Addr × List En)} {σ' : St} (s : Sem K f n tmp e G H σ) (s' : Sem K ⟨f.pu, f.H0, G⟩ m tmp' e' G2 H2 σ') : Sem K f m tmp' e' G2 H2 σ' := by
  obtain ⟨o, re, j⟩ := s
  obtain ⟨o', re', j'⟩ := s'
  exact ⟨o', re_f (f := ⟨f.pu, f.H0, G⟩) (f' := f) rfl re', jout j j'⟩
theorem ss_try {exm : Addr → Bool} {cc : Value} {i j : Nat} {tb : WX → TS} {body : Env → M Out} (hx : ∀ C, exm C = true → PySem.W.exmOne K (.ref (xCls C)) cc = some true) (hb : ∀ f' W', SS K f' W' (tb W') body) : SS K f W (tTry K cc i j tb) (sTry exm i j body) := fun n e G H σ D X s xw w => by
  have s0 := s
  obtain ⟨o0, re0, j0⟩ := s
  unfold tTry
  refine hb ⟨f.pu, f.H0, G⟩ _ n e G H σ D (fun n' e' C => exm C = true ∧ PO K f G D n' (.nx (((e'.set i (.t (.exc C))).set j (.t (.exc C))).set i .no))) (sem_in s0) (fun n' tmp' e' G' H' σ' C d s' x xo => ?_) (wp_imp (wp_try w) fun n' ou w' => ?_)
  · obtain ⟨x1, x2⟩ := x
    refine ⟨hx C x1, fun a ha => ?_⟩
    have s1 := (sem_out s0 s').drop0
    obtain ⟨o', re', j'⟩ := s'
    obtain ⟨s2, eg⟩ := s1.alloc (ob := ExD (.ref (xCls C)) d a) ha trivial
    have tp : Tp K (upd G' a (ExD (.ref (xCls C)) d a)) (.ref a) (.exc C) := .exc upd_same (xo.mono eg)
    exact x2 _ _ _ (j'.g0.trans eg) (((s2.putT (i := i) tp).putT (i := j) tp).putN (i := i))
  · cases ou with
    | nx e' => exact fun σ' G' H' x s' => w' σ' G' H' x (sem_out s0 s')
    | bk e' => exact fun σ' G' H' x s' => w' σ' G' H' x (sem_out s0 s')
    | ct e' => exact fun σ' G' H' x s' => w' σ' G' H' x (sem_out s0 s')
    | rt r =>
      intro v G' H' x rv
      refine w' v G' H' x ?_
      cases r with
      | t y => exact ⟨jout j0 rv.1, rv.2⟩
      | fr ts =>
        obtain ⟨D', h1, h2⟩ := rv
        exact ⟨D', h1, jout j0 h2⟩
end
end Ev

namespace Ev
open PySem L2 Evl Dl
abbrev R2S (r : R2) : St → List V → Hp → VK → Prop := fun _ vs H Q => ∃ x y, vs = [x, y] ∧ r x y H Q
abbrev R1S (r : V → Hp → VK → Prop) : St → List V → Hp → VK → Prop := fun _ vs H Q => ∃ x, vs = [x] ∧ r x H Q
section
variable {X : Cx} {K : PySem.W.Frag} {f : Fx} {W : WX} {G G' H H' : Hp} {n : Nat} {σ : St} {e : Env} {o r tm tmp : List (Addr × List En)} {ds : List Dv} {vs : List V}
/-- two plain things -/
theorem os_2 {r : R2} {g : Tr → Tr → Option Tr} (hz : ∀ x y z, g x y = some z → scalT z = true) (h : ∀ H x y z v u (Q : VK), Tp K H v x → Tp K H u y → g x y = some z → Q (vS z) H → r v u H Q) :
    OS K f W (R2S r) (oPure fun xs => match xs with | [x, y] => g x y | _ => none) := by
  refine os_pure (fun xs z q => ?_) (fun H σ vs xs z Q al q k => ?_)
  · split at q
    · exact hz _ _ _ q
    · cases q
  · split at q
    · cases al with
      | cons a al =>
        cases al with
        | cons b al =>
          cases al
          exact ⟨_, _, rfl, h H _ _ z _ _ Q a b q k⟩
    · cases q
theorem os_1 {r : V → Hp → VK → Prop} {g : Tr → Option Tr} (hz : ∀ x z, g x = some z → scalT z = true) (h : ∀ H x z v (Q : VK), Tp K H v x → g x = some z → Q (vS z) H → r v H Q) :
    OS K f W (R1S r) (oPure fun xs => match xs with | [x] => g x | _ => none) := by
  refine os_pure (fun xs z q => ?_) (fun H σ vs xs z Q al q k => ?_)
  · split at q
    · exact hz _ _ q
    · cases q
  · split at q
    · cases al with
      | cons a al =>
        cases al
        exact ⟨_, rfl, h H _ z _ Q a q k⟩
    · cases q
/-! ### ints -/
def gI (c : Int → Int → Bool) (g : Int → Int → Int) : Tr → Tr → Option Tr
  | .int i, .int j => if c i j = true then some (.int (g i j)) else none
  | _, _ => none
def o2 (g : Tr → Tr → Option Tr) : Env → List Dv → M (Env × Dv) := oPure fun xs => match xs with | [x, y] => g x y | _ => none
def o1 (g : Tr → Option Tr) : Env → List Dv → M (Env × Dv) := oPure fun xs => match xs with | [x] => g x | _ => none
theorem os_I {C : Int → Int → Prop} {c : Int → Int → Bool} {g : Int → Int → Int} (hc : ∀ i j, c i j = true → C i j) : OS K f W (R2S (rI C fun i j => .int (g i j))) (o2 (gI c g)) := by
  refine os_2 (fun x y z q => ?_) (fun H x y z v u Q a b q k => ?_)
  · unfold gI at q
    split at q
    · split at q
      · cases q; rfl
      · cases q
    · cases q
  · unfold gI at q
    split at q
    · split at q
      · rename_i hcc
        cases q
        cases a
        cases b
        exact ⟨_, _, rfl, rfl, hc _ _ hcc, k⟩
      · cases q
    · cases q
theorem rI0_eq {g : Int → Int → V} : rI0 g = rI (fun _ _ => True) g := by
  funext x y H Q
  exact propext ⟨fun ⟨i, j, a, b, c⟩ => ⟨i, j, a, b, trivial, c⟩, fun ⟨i, j, a, b, _, c⟩ => ⟨i, j, a, b, c⟩⟩
theorem os_sub : OS K f W (R2S (rI0 fun i j => .int (i - j))) (o2 (gI (fun _ _ => true) (· - ·))) := by
  rw [rI0_eq]
  exact os_I fun _ _ _ => trivial
def cMod : Int → Int → Bool := fun _ j => decide (0 < j)
theorem os_mod : OS K f W (R2S (rI (fun _ j => 0 < j) fun i j => .int (i % j))) (o2 (gI cMod (· % ·))) := os_I fun i j h => of_decide_eq_true h
def cDiv : Int → Int → Bool := fun _ j => decide (0 < j) && decide (j.natAbs.log2 < 9000)
theorem os_div : OS K f W (R2S (rI CDivW fun i j => .int (i / j))) (o2 (gI cDiv (· / ·))) := os_I fun i j h => by
  obtain ⟨a, b⟩ := Bool.and_eq_true_iff.mp h
  exact ⟨of_decide_eq_true a, of_decide_eq_true b⟩
def cPow : Int → Int → Bool := fun i j => decide (0 ≤ j) && decide ((Builtin.Int.intBits i : Int) * j ≤ 2 ^ 27)
theorem os_pow : OS K f W (R2S (rI CPowX fun i j => .int (i ^ j.toNat))) (o2 (gI cPow (fun i j => i ^ j.toNat))) := os_I fun i j h => by
  obtain ⟨a, b⟩ := Bool.and_eq_true_iff.mp h
  exact ⟨of_decide_eq_true a, of_decide_eq_true b⟩
def gC (p : Int → Int → Bool) : Tr → Tr → Option Tr
  | .int i, .int j => some (.bl (p i j))
  | _, _ => none
theorem os_C {p : Int → Int → Bool} : OS K f W (R2S (rI0 fun i j => .bl (p i j))) (o2 (gC p)) := by
  refine os_2 (fun x y z q => ?_) (fun H x y z v u Q a b q k => ?_)
  · unfold gC at q
    split at q
    · cases q; rfl
    · cases q
  · unfold gC at q
    split at q
    · cases q
      cases a
      cases b
      exact ⟨_, _, rfl, rfl, k⟩
    · cases q
def gLt : Tr → Tr → Option Tr := gC fun i j => decide (i < j)
def gLe : Tr → Tr → Option Tr := gC fun i j => decide (i ≤ j)
def gGt : Tr → Tr → Option Tr := gC fun i j => decide (j < i)
def gGe : Tr → Tr → Option Tr := gC fun i j => decide (j ≤ i)
def gNeg : Tr → Option Tr
  | .int i => some (.int (-i))
  | _ => none
theorem os_neg : OS K f W (R1S (rU fun i => .int (-i))) (o1 gNeg) := by
  refine os_1 (fun x z q => ?_) (fun H x z v Q a q k => ?_)
  · cases x <;> cases q; rfl
  · cases x <;> cases q
    cases a
    exact ⟨_, rfl, k⟩
/-! ### ==, in -/
def gEq (n : Bool) : Tr → Tr → Option Tr := fun x y => if (okT 20 x && okT 20 y) = true then some (.bl (n != PyData.eqv (toD x) (toD y))) else none
theorem os_eq : OS K f W (R2S (rEqD K)) (o2 (gEq false)) := by
  refine os_2 (fun x y z q => ?_) (fun H x y z v u Q a b q k => ?_)
  · unfold gEq at q
    split at q
    · cases q; rfl
    · cases q
  · unfold gEq at q
    split at q
    · rename_i h
      cases q
      obtain ⟨h1, h2⟩ := Bool.and_eq_true_iff.mp h
      refine ⟨toD x, toD y, tp_dp a h1, tp_dp b h2, okT_shaped h1, okT_shaped h2, ?_⟩
      have : (false != PyData.eqv (toD x) (toD y)) = PyData.eqv (toD x) (toD y) := by cases PyData.eqv (toD x) (toD y) <;> rfl
      rw [this] at k
      exact k
    · cases q
theorem os_ne : OS K f W (R2S (rNeD K)) (o2 (gEq true)) := by
  refine os_2 (fun x y z q => ?_) (fun H x y z v u Q a b q k => ?_)
  · unfold gEq at q
    split at q
    · cases q; rfl
    · cases q
  · unfold gEq at q
    split at q
    · rename_i h
      cases q
      obtain ⟨h1, h2⟩ := Bool.and_eq_true_iff.mp h
      refine ⟨toD x, toD y, tp_dp a h1, tp_dp b h2, okT_shaped h1, okT_shaped h2, ?_⟩
      have : (true != PyData.eqv (toD x) (toD y)) = !PyData.eqv (toD x) (toD y) := by cases PyData.eqv (toD x) (toD y) <;> rfl
      rw [this] at k
      exact k
    · cases q
def anyE (x : Tr) (ts : List Tr) : Bool := ts.any fun z => PyData.eqv (toD z) (toD x)
def gIn (n : Bool) : Tr → Tr → Option Tr := fun x y => match y with
  | .lst ts => if (okT 20 x && okT 20 (.lst ts)) = true then some (.bl (n != anyE x ts)) else none
  | _ => none
theorem anyE_eq (x : Tr) (ts : List Tr) : ((toDs ts).any fun z => PyData.eqv z (toD x)) = anyE x ts := by
  rw [toDs_map, List.any_map]
  rfl
theorem os_in : OS K f W (R2S (rInD K)) (o2 (gIn false)) := by
  refine os_2 (fun x y z q => ?_) (fun H x y z v u Q a b q k => ?_)
  · unfold gIn at q
    split at q
    · split at q
      · cases q; rfl
      · cases q
    · cases q
  · unfold gIn at q
    split at q
    · rename_i ts
      split at q
      · rename_i h
        cases q
        obtain ⟨h1, h2⟩ := Bool.and_eq_true_iff.mp h
        refine ⟨toD x, toDs ts, tp_dp a h1, tp_dp b h2, okT_shaped h1, okT_shaped (t := .lst ts) h2, ?_⟩
        rw [anyE_eq]
        have : (false != anyE x ts) = anyE x ts := by cases anyE x ts <;> rfl
        rw [this] at k
        exact k
      · cases q
    · cases q
theorem os_notin : OS K f W (R2S (rNotInD K)) (o2 (gIn true)) := by
  refine os_2 (fun x y z q => ?_) (fun H x y z v u Q a b q k => ?_)
  · unfold gIn at q
    split at q
    · split at q
      · cases q; rfl
      · cases q
    · cases q
  · unfold gIn at q
    split at q
    · rename_i ts
      split at q
      · rename_i h
        cases q
        obtain ⟨h1, h2⟩ := Bool.and_eq_true_iff.mp h
        refine ⟨toD x, toDs ts, tp_dp a h1, tp_dp b h2, okT_shaped h1, okT_shaped (t := .lst ts) h2, ?_⟩
        rw [anyE_eq]
        have : (true != anyE x ts) = !anyE x ts := by cases anyE x ts <;> rfl
        rw [this] at k
        exact k
      · cases q
    · cases q
/-! ### is -/
def rIsU : R2 := fun x y H Q => (y = .non ∧ Q (.bl (decide (x = .non))) H) ∨ ∃ a b, x = .bl a ∧ y = .bl b ∧ Q (.bl (decide (a = b))) H
def rNotU : R2 := fun x y H Q => (y = .non ∧ Q (.bl (!decide (x = .non))) H) ∨ ∃ a b, x = .bl a ∧ y = .bl b ∧ Q (.bl (!decide (a = b))) H
theorem op_isU : OpR X (compareOp .Is) rIsU := OpR.or op_isN op_is_bl
theorem op_notU : OpR X (compareOp .IsNot) rNotU := OpR.or op_notN op_isnot_bl
def isNonT : Tr → Bool
  | .non => true
  | _ => false
theorem non_iff {v : V} {x : Tr} (h : Tp K H v x) : decide (v = .non) = isNonT x := by
  cases h <;> first | rfl | exact decide_eq_false (by intro z; cases z)
def gIs (n : Bool) : Tr → Tr → Option Tr := fun x y => match y with
  | .non => some (.bl (n != isNonT x))
  | .bl b => match x with
    | .bl a => some (.bl (n != decide (a = b)))
    | _ => none
  | _ => none
theorem xf (b : Bool) : (false != b) = b := by cases b <;> rfl
theorem xt (b : Bool) : (true != b) = !b := by cases b <;> rfl
theorem os_is : OS K f W (R2S rIsU) (o2 (gIs false)) := by
  refine os_2 (fun x y z q => ?_) (fun H x y z v u Q a b q k => ?_)
  · unfold gIs at q
    split at q
    · cases q; rfl
    · split at q
      · cases q; rfl
      · cases q
    · cases q
  · unfold gIs at q
    split at q
    · cases q
      cases b
      exact .inl ⟨rfl, by rw [non_iff a, ← xf (isNonT x)]; exact k⟩
    · split at q
      · cases q
        cases a
        cases b
        rw [xf] at k
        exact .inr ⟨_, _, rfl, rfl, k⟩
      · cases q
    · cases q
theorem os_isnot : OS K f W (R2S rNotU) (o2 (gIs true)) := by
  refine os_2 (fun x y z q => ?_) (fun H x y z v u Q a b q k => ?_)
  · unfold gIs at q
    split at q
    · cases q; rfl
    · split at q
      · cases q; rfl
      · cases q
    · cases q
  · unfold gIs at q
    split at q
    · cases q
      cases b
      exact .inl ⟨rfl, by rw [non_iff a, ← xt (isNonT x)]; exact k⟩
    · split at q
      · cases q
        cases a
        cases b
        rw [xt] at k
        exact .inr ⟨_, _, rfl, rfl, k⟩
      · cases q
    · cases q
/-! ### sequences -/
theorem svs_mem (h : SVs K f n tmp e G H σ ds vs) : ∃ tm o, DsOk K f G σ ds vs tm ∧ RE K f G σ e o ∧ J K f ⟨n, tm ++ tmp ++ o⟩ G H := by
  obtain ⟨tm, dk, o, re, j⟩ := h
  exact ⟨tm, o, dk, re, j⟩
theorem svs_seq {d : Dv} {v : V} {b : Bool} {ts : List Tr} (h : SVs K f n tmp e G H σ (d :: ds) (v :: vs)) (q : seqv e d = some (b, ts)) : ∃ a xs, v = .ref a ∧ SqB K H b a xs ∧ TpAll K G xs ts := by
  obtain ⟨tm, dk, o, re, j⟩ := h
  obtain ⟨t1, t2, rfl, h1, h2⟩ := dk.split
  exact seqv_tp re j (fun a m => List.mem_append_right _ m) h1 (fun a m => List.mem_append_left _ (List.mem_append_left _ (List.mem_append_left _ m))) q
theorem svs_tail {d : Dv} {v : V} (h : SVs K f n tmp e G H σ (d :: ds) (v :: vs)) : SVs K f n tmp e G H σ ds vs := by
  obtain ⟨tm, dk, s⟩ := h
  obtain ⟨t1, t2, rfl, h1, h2⟩ := dk.split
  exact ⟨t2, h2, Sem.drop (tm := t1) (by rw [← List.append_assoc]; exact s)⟩
theorem svs_view {d : Dv} {v : V} {x : Tr} (h : SVs K f n tmp e G H σ (d :: ds) (v :: vs)) (q : view e d = some x) : Tp K H v x := by
  obtain ⟨tm, dk, o, re, j⟩ := h
  obtain ⟨t1, t2, rfl, h1, h2⟩ := dk.split
  exact view_tp re j (fun a m => List.mem_append_right _ m) h1 (fun a m => List.mem_append_left _ (List.mem_append_left _ (List.mem_append_left _ m))) q
theorem svs_sem (h : SVs K f n tmp e G H σ ds vs) : Sem K f n tmp e G H σ := by
  obtain ⟨tm, dk, s⟩ := h
  exact s.drop
theorem sqb_or {b : Bool} {a : Addr} {xs : List V} (h : SqB K H b a xs) : SqL K H a xs ∨ SqT K H a xs := by
  cases b with
  | true => exact .inr h
  | false => exact .inl (sq_of h)
/-- xs[i] -/
def oIx : Env → List Dv → M (Env × Dv) := fun e ds => match ds with
  | [d, i] => match view e i with
    | some (.int k) => match seqv e d with
      | some (_, ts) => match atI ts k with
        | some x => .ret (e, .t x)
        | none => .bad
      | none => match view e d with
        | some (.str z) => if z.length ≤ 100000 then match atI z.cps.toList k with
            | some c => .ret (e, .t (.str ⟨#[c]⟩))
            | none => .bad
          else .bad
        | _ => .bad
    | _ => .bad
  | _ => .bad
theorem tpa_at {vs : List V} {ts : List Tr} {i : Int} {d : Tr} (h : TpAll K G vs ts) (q : atI ts i = some d) : ∃ v, atI vs i = some v ∧ Tp K G v d := by
  unfold atI at q ⊢
  rw [h.len]
  cases z : ixN ts.length i with
  | none => rw [z] at q; cases q
  | some j =>
    rw [z] at q
    exact h.get q
theorem os_ix : OS K f W (R2S (rIx K)) oIx := fun n tmp e G H σ ds vs Q X s xw w => by
  unfold oIx at w
  split at w
  · rename_i d i
    obtain ⟨tm, dk, s0⟩ := id s
    match vs, dk.len with
    | [v, u], _ =>
      split at w
      · rename_i k q
        have tk := svs_view (svs_tail s) q
        cases tk
        refine ⟨v, _, rfl, ?_⟩
        split at w
        · rename_i b ts q1
          obtain ⟨a, xs, rfl, sq, al⟩ := svs_seq s q1
          split at w
          · rename_i x q2
            obtain ⟨y, hy, tp⟩ := tpa_at al q2
            have fin : Q y H := w y G H (Ex.refl G) (sv_t (svs_sem s) tp)
            cases b with
            | false => exact .inl ⟨_, _, k, y, rfl, rfl, sq_of sq, hy, fin⟩
            | true => exact .inr (.inl ⟨_, _, k, y, rfl, rfl, sq, hy, fin⟩)
          · exact w.elim
        · split at w
          · rename_i z q1
            have tz := svs_view s q1
            cases tz
            split at w
            · rename_i hl
              split at w
              · rename_i c q2
                exact .inr (.inr ⟨z, k, c, rfl, rfl, sz_of hl, q2, w _ G H (Ex.refl G) (sv_t (svs_sem s) (.str _))⟩)
              · exact w.elim
            · exact w.elim
          · exact w.elim
      · exact w.elim
  · exact w.elim
end
end Ev

namespace Ev
open PySem L2 Evl Dl
section
variable {X : Cx} {K : PySem.W.Frag} {f : Fx} {W : WX} {G G' H H' : Hp} {n : Nat} {σ : St} {e : Env} {o r tm tmp : List (Addr × List En)} {ds : List Dv} {vs : List V}
/-! ### + -/
def rAddU (K : PySem.W.Frag) : R2 := fun x y H Q => (rI0 (fun i j => .int (i + j))) x y H Q ∨ ((∃ i j, x = .str i ∧ y = .str j ∧ i.length + j.length ≤ sizeLine ∧ Q (.str (i ++ j)) H) ∨ (rCat x y H Q ∨ rCatF K x y H Q))
theorem op_addU : OpR X (binaryOp .Add) (rAddU X.K) := OpR.or op_add (OpR.or op_add_str (OpR.or op_cat op_catF))
def oAdd : Env → List Dv → M (Env × Dv) := fun e ds => match ds with
  | [a, b] => match view e a, view e b with
    | some (.int i), some (.int j) => .ret (e, .t (.int (i + j)))
    | some (.str x), some (.str y) => if x.length + y.length ≤ 100000 then .ret (e, .t (.str (x ++ y))) else .bad
    | some (.lst _), some (.lst _) => match seqv e a, seqv e b with
      | some (false, xs), some (false, ys) => if xs.length + ys.length ≤ 100000 then .ret (e, .fr (xs ++ ys)) else .bad
      | _, _ => .bad
    | some (.tup _), some (.tup _) => match seqv e a, seqv e b with
      | some (true, xs), some (true, ys) => if xs.length + ys.length ≤ 100000 then .ret (e, .t (.tup (xs ++ ys))) else .bad
      | _, _ => .bad
    | _, _ => .bad
  | _ => .bad
theorem vs2 {a b : Dv} (h : SVs K f n tmp e G H σ [a, b] vs) : ∃ v u, vs = [v, u] := by
  obtain ⟨tm, dk, _⟩ := h
  match vs, dk.len with
  | [v, u], _ => exact ⟨v, u, rfl⟩
theorem vs1 {a : Dv} (h : SVs K f n tmp e G H σ [a] vs) : ∃ v, vs = [v] := by
  obtain ⟨tm, dk, _⟩ := h
  match vs, dk.len with
  | [v], _ => exact ⟨v, rfl⟩
theorem os_add : OS K f W (R2S (rAddU K)) oAdd := fun n tmp e G H σ ds vs Q X s xw w => by
  unfold oAdd at w
  split at w
  · rename_i a b
    obtain ⟨v, u, rfl⟩ := vs2 s
    refine ⟨v, u, rfl, ?_⟩
    have sm := svs_sem s
    split at w
    · rename_i i j q1 q2
      have t1 := svs_view s q1
      have t2 := svs_view (svs_tail s) q2
      cases t1
      cases t2
      exact .inl ⟨i, j, rfl, rfl, w _ G H (Ex.refl G) (sv_t sm (.int _))⟩
    · rename_i i j q1 q2
      have t1 := svs_view s q1
      have t2 := svs_view (svs_tail s) q2
      cases t1
      cases t2
      split at w
      · rename_i hl
        exact .inr (.inl ⟨i, j, rfl, rfl, sz_of hl, w _ G H (Ex.refl G) (sv_t sm (.str _))⟩)
      · exact w.elim
    · split at w
      · rename_i xs ys q1 q2
        split at w
        · rename_i hl
          obtain ⟨p, zs, rfl, sq, al⟩ := svs_seq s q1
          obtain ⟨p2, zs2, rfl, sq2, al2⟩ := svs_seq (svs_tail s) q2
          refine .inr (.inr (.inl ⟨p, p2, zs, zs2, rfl, rfl, sq, sq2, sz_of (by rw [al.len, al2.len]; exact hl), fun q hq => ?_⟩))
          exact w _ G _ (Ex.refl G) (sm.ownNew hq (al.cat al2))
        · exact w.elim
      · exact w.elim
    · split at w
      · rename_i xs ys q1 q2
        split at w
        · rename_i hl
          obtain ⟨p, zs, rfl, sq, al⟩ := svs_seq s q1
          obtain ⟨p2, zs2, rfl, sq2, al2⟩ := svs_seq (svs_tail s) q2
          have l1 := al.len
          have l2 := al2.len
          have t1 : Tp K G (.ref p) (.tup xs) ∧ Tp K G (.ref p2) (.tup ys) := by
            have key : ∀ {d : Dv} {ds : List Dv} {v : V} {vs : List V} {ts : List Tr}, SVs K f n tmp e G H σ (d :: ds) (v :: vs) → seqv e d = some (true, ts) → Tp K G v (.tup ts) := fun {d ds v vs ts} hh q => by
              obtain ⟨tm, dk, o, re, j⟩ := hh
              obtain ⟨t1, t2, _, h1, _⟩ := dk.split
              cases h1 with
              | @t _ x _ _ _ a _ =>
                unfold seqv at q
                cases x with
                | tup ts' => cases q; exact a
                | lst ts' => cases q
                | _ => cases q
              | fr b => cases q
              | @sl i _ _ _ _ a _ =>
                unfold seqv at q
                cases z : e[i]? with
                | none => simp [z] at q
                | some y =>
                  cases y with
                  | t y =>
                    obtain ⟨u, q1, q2⟩ := re.getT z
                    rw [a] at q1
                    cases q1
                    cases y with
                    | tup ts' =>
                      simp only [z, Option.some.injEq, Prod.mk.injEq, true_and] at q
                      subst q
                      exact q2
                    | _ => simp [z] at q
                  | _ => simp [z] at q
              | vv b => cases q
              | pu a b => cases q
            exact ⟨key s q1, key (svs_tail s) q2⟩
          refine .inr (.inr (.inr ⟨p, p2, zs, zs2, rfl, rfl, sq, sq2, sz_of (by rw [al.len, al2.len]; exact hl), fun z => ?_, fun z1 z2 => ?_, fun z1 z2 q ob ho hq => ?_⟩))
          · have : xs = [] := List.eq_nil_of_length_eq_zero (by rw [← l1, z]; rfl)
            subst this
            exact w _ G H (Ex.refl G) (sv_t sm t1.2)
          · have : ys = [] := List.eq_nil_of_length_eq_zero (by rw [← l2, z2]; rfl)
            subst this
            rw [List.append_nil] at w
            exact w _ G H (Ex.refl G) (sv_t sm t1.1)
          · obtain ⟨s3, x3⟩ := sm.alloc (ob := .frz ob (.tup (zs ++ zs2))) hq ho
            exact w _ _ _ x3 (sv_t s3 (.tup (st_frz upd_same) ((al.cat al2).mono x3)))
        · exact w.elim
      · exact w.elim
    · exact w.elim
  · exact w.elim
/-! ### * -/
def rMulU (K : PySem.W.Frag) : R2 := fun x y H Q => (rI CMulW (fun i j => .int (i * j))) x y H Q ∨ rRep x y H Q
theorem op_mulU : OpR X (binaryOp .Mult) (rMulU X.K) := OpR.or op_mulW op_rep
def repL {α : Type} (xs : List α) (k : Nat) : List α := (List.replicate k xs).flatten
def oMul : Env → List Dv → M (Env × Dv) := fun e ds => match ds with
  | [a, b] => match view e b with
    | some (.int j) => match view e a with
      | some (.int i) => if i.natAbs.log2 + j.natAbs.log2 < 1000000 then .ret (e, .t (.int (i * j))) else .bad
      | some (.lst _) => match seqv e a with
        | some (false, xs) => if smallI j = true ∧ xs.length * j.toNat ≤ 100000 then .ret (e, .fr (repL xs j.toNat)) else .bad
        | _ => .bad
      | _ => .bad
    | _ => .bad
  | _ => .bad
theorem tpa_rep {xs : List V} {ts : List Tr} (al : TpAll K G xs ts) : ∀ k : Nat, TpAll K G (repL xs k) (repL ts k)
  | 0 => .nil
  | k + 1 => by
    unfold repL
    rw [List.replicate_succ, List.replicate_succ, List.flatten_cons, List.flatten_cons]
    exact al.cat (tpa_rep al k)
theorem os_mul : OS K f W (R2S (rMulU K)) oMul := fun n tmp e G H σ ds vs Q X s xw w => by
  unfold oMul at w
  split at w
  · rename_i a b
    obtain ⟨v, u, rfl⟩ := vs2 s
    refine ⟨v, u, rfl, ?_⟩
    have sm := svs_sem s
    split at w
    · rename_i j q2
      have t2 := svs_view (svs_tail s) q2
      cases t2
      split at w
      · rename_i i q1
        have t1 := svs_view s q1
        cases t1
        split at w
        · rename_i hc
          exact .inl ⟨i, j, rfl, rfl, hc, w _ G H (Ex.refl G) (sv_t sm (.int _))⟩
        · exact w.elim
      · split at w
        · rename_i xs q1
          split at w
          · rename_i hc
            obtain ⟨p, zs, rfl, sq, al⟩ := svs_seq s q1
            exact .inr ⟨p, j, zs, rfl, rfl, sq, by have := smallI_iff.mp hc.1; omega, by have := smallI_iff.mp hc.1; omega, sz_of (by rw [al.len]; exact hc.2), fun q hq => w _ G _ (Ex.refl G) (sm.ownNew hq (tpa_rep al _))⟩
          · exact w.elim
        · exact w.elim
      · exact w.elim
    · exact w.elim
  · exact w.elim
/-! ### slices -/
def cutT {α : Type} (xs : List α) (lo hi : Option Int) : List α := (xs.drop (HT.sIx xs.length 0 lo)).take (HT.sIx xs.length xs.length hi - HT.sIx xs.length 0 lo)
def SO (K : PySem.W.Frag) (f : Fx) (W : WX) (tl : TO) (m : Env → M (Env × Option Int)) : Prop :=
  ∀ n tmp e G H σ (Q : Option Int → Hp → Prop) X, Sem K f n tmp e G H σ → XW K f W X → wp (m e) n (fun n' r => ∀ G' H', Ex G G' → Sem K f n' tmp r.1 G' H' σ → Q r.2 H') X → tl σ H Q
def pNo : Env → M (Env × Option Int) := fun e => .ret (e, none)
def pSome (a : Env → M (Env × Dv)) : Env → M (Env × Option Int) := fun e => (a e).bind fun p => match p.2 with
  | .t (.int i) => .ret (p.1, some i)
  | _ => .bad
theorem so_no : SO K f W tNoPart pNo := fun n tmp e G H σ Q X s xw w => w G H (Ex.refl G) s
theorem so_some {te : TE} {a : Env → M (Env × Dv)} (h : SE K f W te a) : SO K f W (tPart te) (pSome a) := fun n tmp e G H σ Q X s xw w => by
  refine h n tmp e G H σ _ X s xw (wp_imp (wpb w) fun n1 p w1 v G1 H1 x1 sv => ?_)
  obtain ⟨e1, d⟩ := p
  dsimp only at w1 sv
  split at w1
  · rename_i i
    obtain ⟨tk, s1⟩ := sv_t_iff.mp sv
    cases tk
    exact ⟨i, rfl, w1 G1 H1 x1 s1⟩
  · exact w1.elim
def rSlU (K : PySem.W.Frag) : V → Option Int → Option Int → Hp → VK → Prop := fun x lo hi H Q => rSlL K x lo hi H Q ∨ (rSlF K x lo hi H Q ∨ rSlS x lo hi H Q)
theorem slr_or {r r' : V → Option Int → Option Int → Hp → VK → Prop} (h : SlR X r) (h' : SlR X r') : SlR X (fun x lo hi H Q => r x lo hi H Q ∨ r' x lo hi H Q) := by
  intro pins s σ H x v vl vu lo hi sl Q I rx hs pl pu hh
  rcases hh with hh | hh
  · exact h pins s σ H x v vl vu lo hi sl Q I rx hs pl pu hh
  · exact h' pins s σ H x v vl vu lo hi sl Q I rx hs pl pu hh
theorem sl_U : SlR X (rSlU X.K) := slr_or sl_list (slr_or sl_tupF sl_str)
def eSl (a : Env → M (Env × Dv)) (lo hi : Env → M (Env × Option Int)) : Env → M (Env × Dv) := fun e => (a e).bind fun p => (lo p.1).bind fun p2 => (hi p2.1).bind fun p3 => match seqv p3.1 p.2 with
  | some (false, ts) => .ret (p3.1, .fr (cutT ts p2.2 p3.2))
  | some (true, ts) => .ret (p3.1, .t (.tup (cutT ts p2.2 p3.2)))
  | none => match view p3.1 p.2 with
    | some (.str z) => if z.length ≤ 100000 then .ret (p3.1, .t (.str (cutS z p2.2 p3.2))) else .bad
    | _ => .bad
/-- a tuple on the way is one of the data's heap -/
theorem seq_tup {d : Dv} {v : V} {ts : List Tr} (hh : SVs K f n tmp e G H σ (d :: ds) (v :: vs)) (q : seqv e d = some (true, ts)) : Tp K G v (.tup ts) := by
  obtain ⟨tm, dk, o, re, j⟩ := hh
  obtain ⟨t1, t2, _, h1, _⟩ := dk.split
  cases h1 with
  | @t _ x _ _ _ a _ =>
    unfold seqv at q
    cases x with
    | tup ts' => cases q; exact a
    | lst ts' => cases q
    | _ => cases q
  | fr b => cases q
  | @sl i _ _ _ _ a _ =>
    unfold seqv at q
    cases z : e[i]? with
    | none => simp [z] at q
    | some y =>
      cases y with
      | t y =>
        obtain ⟨u, q1, q2⟩ := re.getT z
        rw [a] at q1
        cases q1
        cases y with
        | tup ts' =>
          simp only [z, Option.some.injEq, Prod.mk.injEq, true_and] at q
          subst q
          exact q2
        | _ => simp [z] at q
      | _ => simp [z] at q
  | vv b => cases q
  | pu a b => cases q
theorem tpa_cut {vs : List V} {ts : List Tr} (h : TpAll K G vs ts) (lo hi : Option Int) : TpAll K G (cutV vs lo hi) (cutT ts lo hi) := by
  unfold cutV cutT
  rw [h.len]
  exact (h.dropN _).takeN _
theorem se_sl {te : TE} {tl th : TO} {a : Env → M (Env × Dv)} {lo hi : Env → M (Env × Option Int)} (ha : SE K f W te a) (hl : SO K f W tl lo) (hh : SO K f W th hi) : SE K f W (tSl (rSlU K) te tl th) (eSl a lo hi) := fun n tmp e G H σ Q X s xw w => by
  refine ha n tmp e G H σ _ X s xw (wp_imp (wpb w) fun n1 p w1 v G1 H1 x1 sv => ?_)
  obtain ⟨tm, dk, s1⟩ := sv
  refine hl n1 (tm ++ tmp) p.1 G1 H1 σ _ X s1 xw (wp_imp (wpb w1) fun n2 p2 w2 G2 H2 x2 s2 => ?_)
  refine hh n2 (tm ++ tmp) p2.1 G2 H2 σ _ X s2 xw (wp_imp (wpb w2) fun n3 p3 w3 G3 H3 x3 s3 => ?_)
  have sv3 : SV K f n3 tmp p3.1 G3 H3 σ p.2 v := ⟨tm, (dk.mono x2).mono x3, s3⟩
  have sm := svs_sem sv3
  have xx := (x1.trans x2).trans x3
  split at w3
  · rename_i ts q
    obtain ⟨ad, xs, rfl, sq, al⟩ := svs_seq sv3 q
    exact .inl ⟨ad, xs, rfl, sq_of sq, fun q hq => w3 _ G3 _ xx (sm.ownNew hq (tpa_cut al _ _))⟩
  · rename_i ts q
    obtain ⟨ad, xs, rfl, sq, al⟩ := svs_seq sv3 q
    have tt := seq_tup sv3 q
    refine .inr (.inl ⟨ad, xs, rfl, sq, fun z => ?_, fun z q ob ho hq => ?_⟩)
    · have : cutT ts p2.2 p3.2 = ts := by
        unfold cutT
        rw [← al.len, z.1, z.2, List.drop_zero, Nat.sub_zero, al.len, List.take_length]
      rw [this] at w3
      exact w3 _ G3 H3 xx (sv_t sm tt)
    · obtain ⟨s4, x4⟩ := sm.alloc (ob := .frz ob (.tup (cutV xs p2.2 p3.2))) hq ho
      exact w3 _ _ _ (xx.trans x4) (sv_t s4 (.tup (st_frz upd_same) ((tpa_cut al _ _).mono x4)))
  · split at w3
    · rename_i z q
      have tz := svs_view sv3 q
      cases tz
      split at w3
      · rename_i hl
        exact .inr (.inr ⟨z, rfl, sz_of hl, w3 _ G3 H3 xx (sv_t sm (.str _))⟩)
      · exact w3.elim
    · exact w3.elim
/-! ### built-ins of one thing -/
def rLenU (K : PySem.W.Frag) : List V → Hp → VK → Prop := fun xs H Q => (∃ p ys, xs = [.ref p] ∧ (SqL K H p ys ∨ SqT K H p ys) ∧ Q (.int ys.length) H) ∨ (∃ z, xs = [.str z] ∧ z.length ≤ sizeLine ∧ Q (.int z.length) H)
theorem call_lenU : CallR X (.builtin "len") (rLenU X.K) := CallR.or call_len_seq call_len_str
def oLen : Env → List Dv → M (Env × Dv) := fun e ds => match ds with
  | [d] => match seqv e d with
    | some (_, ts) => .ret (e, .t (.int (ts.length : Nat)))
    | none => match view e d with
      | some (.str z) => if z.length ≤ 100000 then .ret (e, .t (.int (z.length : Nat))) else .bad
      | _ => .bad
  | _ => .bad
theorem os_len : OS K f W (fun _ => rLenU K) oLen := fun n tmp e G H σ ds vs Q X s xw w => by
  unfold oLen at w
  split at w
  · rename_i d
    obtain ⟨v, rfl⟩ := vs1 s
    have sm := svs_sem s
    split at w
    · rename_i b ts q
      obtain ⟨a, xs, rfl, sq, al⟩ := svs_seq s q
      refine .inl ⟨a, xs, rfl, sqb_or sq, ?_⟩
      rw [al.len]
      exact w _ G H (Ex.refl G) (sv_t sm (.int _))
    · split at w
      · rename_i z q
        have tz := svs_view s q
        cases tz
        split at w
        · rename_i hl
          exact .inr ⟨z, rfl, sz_of hl, w _ G H (Ex.refl G) (sv_t sm (.int _))⟩
        · exact w.elim
      · exact w.elim
  · exact w.elim
def oTuple : Env → List Dv → M (Env × Dv) := fun e ds => match ds with
  | [d] => match seqv e d with
    | some (_, ts) => .ret (e, .t (.tup ts))
    | none => .bad
  | _ => .bad
theorem os_tuple : OS K f W (fun _ => rTupF K) oTuple := fun n tmp e G H σ ds vs Q X s xw w => by
  unfold oTuple at w
  split at w
  · rename_i d
    obtain ⟨v, rfl⟩ := vs1 s
    have sm := svs_sem s
    split at w
    · rename_i b ts q
      obtain ⟨a, xs, rfl, sq, al⟩ := svs_seq s q
      cases b with
      | false =>
        refine ⟨a, xs, rfl, .inl ⟨sq_of sq, fun q ob ho hq => ?_⟩⟩
        obtain ⟨s4, x4⟩ := sm.alloc (ob := .frz ob (.tup xs)) hq ho
        exact w _ _ _ x4 (sv_t s4 (.tup (st_frz upd_same) (al.mono x4)))
      | true => exact ⟨a, xs, rfl, .inr ⟨sq, w _ G H (Ex.refl G) (sv_t sm (seq_tup s q))⟩⟩
    · exact w.elim
  · exact w.elim
def oList : Env → List Dv → M (Env × Dv) := fun e ds => match ds with
  | [d] => match seqv e d with
    | some (_, ts) => .ret (e, .fr ts)
    | none => .bad
  | _ => .bad
theorem os_list : OS K f W (fun _ xs H Q => ∃ p ys, xs = [.ref p] ∧ (SqL K H p ys ∨ SqT K H p ys) ∧ ∀ l, H l = none → Q (.ref l) (upd H l (.lst ys))) oList := fun n tmp e G H σ ds vs Q X s xw w => by
  unfold oList at w
  split at w
  · rename_i d
    obtain ⟨v, rfl⟩ := vs1 s
    have sm := svs_sem s
    split at w
    · rename_i b ts q
      obtain ⟨a, xs, rfl, sq, al⟩ := svs_seq s q
      exact ⟨a, xs, rfl, sqb_or sq, fun q hq => w _ G _ (Ex.refl G) (sm.ownNew hq al)⟩
    · exact w.elim
  · exact w.elim
/-- list(range(m)) -/
def eLrg (a : Env → M (Env × Dv)) : Env → M (Env × Dv) := fun e => (a e).bind fun p => match p.2 with
  | .t (.int m) => if 0 ≤ m ∧ m ≤ 1000 then .ret (p.1, .fr ((List.range m.toNat).map fun (i : Nat) => Tr.int (i : Int))) else .bad
  | _ => .bad
theorem tpa_ints {ns : List Int} : TpAll K G (ns.map V.int) (ns.map .int) := by
  induction ns with
  | nil => exact .nil
  | cons a t ih => exact .cons (.int a) ih
theorem se_lrg {te : TE} {a : Env → M (Env × Dv)} (h : SE K f W te a) : SE K f W (tLstRg (tRg1 te)) (eLrg a) := fun n tmp e G H σ Q X s xw w => by
  refine h n tmp e G H σ _ X s xw (wp_imp (wpb w) fun n1 p w1 v G1 H1 x1 sv => ?_)
  obtain ⟨e1, d⟩ := p
  dsimp only at w1 sv
  split at w1
  · rename_i m
    obtain ⟨tk, s1⟩ := sv_t_iff.mp sv
    cases tk
    split at w1
    · rename_i hm
      refine ⟨m, rfl, ⟨by decide, by decide, by omega, by omega, ?_⟩, fun q hq => ?_⟩
      · rw [Int.sub_zero]
        omega
      · refine w1 _ G1 _ x1 (s1.ownNew hq ?_)
        unfold rgV
        rw [Int.sub_zero]
        have all : ∀ l : List Nat, TpAll K G1 (l.map fun i => V.int (0 + (i : Nat))) (l.map fun (i : Nat) => Tr.int (i : Int)) := by
          intro l
          induction l with
          | nil => exact .nil
          | cons i l ih =>
            refine .cons ?_ ih
            show Tp K G1 (V.int (0 + (i : Int))) (Tr.int (i : Int))
            rw [Int.zero_add]
            exact .int _
        exact all _
    · exact w1.elim
  · exact w1.elim
/-- all, any -/
def blsOf : List Tr → Option (List Bool)
  | [] => some []
  | .bl b :: r => match blsOf r with
    | some bs => some (b :: bs)
    | none => none
  | _ :: _ => none
theorem bls_ok : ∀ {ts : List Tr} {bs : List Bool} {xs : List V}, blsOf ts = some bs → TpAll K G xs ts → xs = bs.map V.bl
  | [], _, _, q, al => by cases q; cases al; rfl
  | t :: ts, bs, xs, q, al => by
    cases al with
    | cons a al =>
      cases t with
      | bl b =>
        cases z : blsOf ts with
        | none => simp [blsOf, z] at q
        | some bs' =>
          simp only [blsOf, z, Option.some.injEq] at q
          subst q
          cases a
          rw [bls_ok z al]
          rfl
      | _ => cases q
def oAll (g : List Bool → Bool) : Env → List Dv → M (Env × Dv) := fun e ds => match ds with
  | [d] => match seqv e d with
    | some (false, ts) => match blsOf ts with
      | some bs => .ret (e, .t (.bl (g bs)))
      | none => .bad
    | _ => .bad
  | _ => .bad
theorem os_all : OS K f W (fun _ => rAll K) (oAll fun bs => bs.all id) := fun n tmp e G H σ ds vs Q X s xw w => by
  unfold oAll at w
  split at w
  · rename_i d
    obtain ⟨v, rfl⟩ := vs1 s
    have sm := svs_sem s
    split at w
    · rename_i ts q
      split at w
      · rename_i bs q2
        obtain ⟨a, xs, rfl, sq, al⟩ := svs_seq s q
        rw [bls_ok q2 al] at sq
        exact ⟨a, bs, rfl, sq_of sq, w _ G H (Ex.refl G) (sv_t sm (.bl _))⟩
      · exact w.elim
    · exact w.elim
  · exact w.elim
theorem os_any : OS K f W (fun _ => rAny K) (oAll fun bs => bs.any id) := fun n tmp e G H σ ds vs Q X s xw w => by
  unfold oAll at w
  split at w
  · rename_i d
    obtain ⟨v, rfl⟩ := vs1 s
    have sm := svs_sem s
    split at w
    · rename_i ts q
      split at w
      · rename_i bs q2
        obtain ⟨a, xs, rfl, sq, al⟩ := svs_seq s q
        rw [bls_ok q2 al] at sq
        exact ⟨a, bs, rfl, sq_of sq, w _ G H (Ex.refl G) (sv_t sm (.bl _))⟩
      · exact w.elim
    · exact w.elim
  · exact w.elim
/-! ### isinstance -/
def tyT' : Tr → Option String
  | .non => some "NoneType"
  | .bl _ => some "bool"
  | .int _ => some "int"
  | .str _ => some "str"
  | .lst _ => some "list"
  | .tup _ => some "tuple"
  | _ => none
theorem tyT_ok {v : V} {x : Tr} {T : String} (h : Tp K H v x) (q : tyT' x = some T) : TyX K H v (.type T) := by
  cases h with
  | non => cases q; exact .base .non
  | bl b => cases q; exact .base (.bl b)
  | int i => cases q; exact .base (.int i)
  | str i => cases q; exact .base (.str i)
  | lst sq _ => cases q; exact .base (.lst sq)
  | tup sq _ =>
    cases q
    rcases sq with (e | ⟨o, e⟩) | ⟨o, its, n, e, c, _⟩
    · exact .base (.tup e)
    · exact .fTuple e
    · exact .kTuple e c
  | exc _ _ => cases q
  | obj _ _ _ => cases q
def rIsU2 (K : PySem.W.Frag) : List V → Hp → VK → Prop := fun xs H Q => rIsi K xs H Q ∨ rIsX K xs H Q
theorem call_isU : CallR X (.builtin "isinstance") (rIsU2 X.K) := CallR.or call_isi cr_isX
/-- kx: which class an exception is of -/
def oIsi (kx : Addr → V → Option Bool) : Env → List Dv → M (Env × Dv) := fun e ds => match ds with
  | [d, .vv c] => match view e d with
    | some (.exc C) => match kx (xCls C) c with
      | some b => .ret (e, .t (.bl b))
      | none => .bad
    | some x => match tyT' x, c with
      | some T, .ty n => match kitB T n with
        | some b => .ret (e, .t (.bl b))
        | none => .bad
      | _, _ => .bad
    | none => .bad
  | _ => .bad
def KX (K : PySem.W.Frag) (kx : Addr → V → Option Bool) : Prop := ∀ C v b, kx C v = some b → ExcC K C ∧ ∃ cv, (∀ u, RelV v u → u = cv) ∧ PySem.W.kitOne K (.ref C) cv = some b
theorem os_isi {kx : Addr → V → Option Bool} (hx : KX K kx) : OS K f W (fun _ => rIsU2 K) (oIsi kx) := fun n tmp e G H σ ds vs Q X s xw w => by
  unfold oIsi at w
  split at w
  · rename_i d c
    obtain ⟨v, u, rfl⟩ := vs2 s
    have sm := svs_sem s
    have hu : u = c := by
      obtain ⟨tm, dk, _⟩ := svs_tail s
      cases dk with
      | vv _ => rfl
    subst hu
    split at w
    · rename_i C q
      have tz := svs_view s q
      split at w
      · rename_i b q2
        obtain ⟨h1, cv, h2, h3⟩ := hx (xCls C) u b q2
        cases tz with
        | exc ha xo => exact .inr ⟨_, xCls C, _, u, cv, b, rfl, ha, xo.has, h1, h2, h3, w _ G H (Ex.refl G) (sv_t sm (.bl _))⟩
      · exact w.elim
    · rename_i x _ q
      have tz := svs_view s q
      split at w
      · rename_i T nm q2
        split at w
        · rename_i b q3
          exact .inl ⟨v, _, _, _, b, rfl, .ty nm, tyT_ok tz q2, kit_ty q3, w _ G H (Ex.refl G) (sv_t sm (.bl _))⟩
        · exact w.elim
      · exact w.elim
    · exact w.elim
  · exact w.elim
/-! ### plain built-ins -/
def o1' (g : Tr → Option Tr) : Env → List Dv → M (Env × Dv) := o1 g
theorem os_1b {rr : List V → Hp → VK → Prop} {g : Tr → Option Tr} (hz : ∀ x z, g x = some z → scalT z = true) (h : ∀ H x z v (Q : VK), Tp K H v x → g x = some z → Q (vS z) H → rr [v] H Q) : OS K f W (fun _ => rr) (o1 g) := by
  refine os_pure (fun xs z q => ?_) (fun H σ vs xs z Q al q k => ?_)
  · split at q
    · exact hz _ _ q
    · cases q
  · split at q
    · cases al with
      | cons a al =>
        cases al
        exact h H _ z _ Q a q k
    · cases q
theorem os_2b {rr : List V → Hp → VK → Prop} {g : Tr → Tr → Option Tr} (hz : ∀ x y z, g x y = some z → scalT z = true) (h : ∀ H x y z v u (Q : VK), Tp K H v x → Tp K H u y → g x y = some z → Q (vS z) H → rr [v, u] H Q) : OS K f W (fun _ => rr) (o2 g) := by
  refine os_pure (fun xs z q => ?_) (fun H σ vs xs z Q al q k => ?_)
  · split at q
    · exact hz _ _ _ q
    · cases q
  · split at q
    · cases al with
      | cons a al =>
        cases al with
        | cons b al =>
          cases al
          exact h H _ _ z _ _ Q a b q k
    · cases q
def gInt : Tr → Option Tr
  | .int i => some (.int i)
  | .bl b => some (.int (if b then 1 else 0))
  | _ => none
theorem os_int : OS K f W (fun _ xs H Q => (∃ i, xs = [.int i] ∧ Q (.int i) H) ∨ ∃ k, xs = [.bl k] ∧ Q (.int (if k then 1 else 0)) H) (o1 gInt) := by
  refine os_1b (fun x z q => ?_) (fun H x z v Q a q k => ?_)
  · cases x <;> cases q <;> rfl
  · cases x <;> cases q
    · cases a
      exact .inr ⟨_, rfl, k⟩
    · cases a
      exact .inl ⟨_, rfl, k⟩
def gAbs : Tr → Option Tr
  | .int i => some (.int (if i < 0 then -i else i))
  | _ => none
theorem os_abs : OS K f W (fun _ xs H Q => ∃ i, xs = [.int i] ∧ Q (.int (if i < 0 then -i else i)) H) (o1 gAbs) := by
  refine os_1b (fun x z q => ?_) (fun H x z v Q a q k => ?_)
  · cases x <;> cases q; rfl
  · cases x <;> cases q
    cases a
    exact ⟨_, rfl, k⟩
def gMin2 : Tr → Tr → Option Tr
  | .int i, .int j => some (.int (if j < i then j else i))
  | _, _ => none
def gMax2 : Tr → Tr → Option Tr
  | .int i, .int j => some (.int (if j > i then j else i))
  | _, _ => none
theorem os_min2 : OS K f W (fun _ xs H Q => ∃ i j, xs = [.int i, .int j] ∧ Q (.int (if j < i then j else i)) H) (o2 gMin2) := by
  refine os_2b (fun x y z q => ?_) (fun H x y z v u Q a b q k => ?_)
  · cases x <;> cases y <;> cases q; rfl
  · cases x <;> cases y <;> cases q
    cases a
    cases b
    exact ⟨_, _, rfl, k⟩
theorem os_max2 : OS K f W (fun _ xs H Q => ∃ i j, xs = [.int i, .int j] ∧ Q (.int (if j > i then j else i)) H) (o2 gMax2) := by
  refine os_2b (fun x y z q => ?_) (fun H x y z v u Q a b q k => ?_)
  · cases x <;> cases y <;> cases q; rfl
  · cases x <;> cases y <;> cases q
    cases a
    cases b
    exact ⟨_, _, rfl, k⟩
/-- str(x) of data -/
def gStr : Tr → Option Tr := fun x => if (okT 20 x && okN 4 (toD x)) = true then some (.str (strD (toD x))) else none
theorem os_str : OS K f W (fun _ => rStrD K) (o1 gStr) := by
  refine os_1b (fun x z q => ?_) (fun H x z v Q a q k => ?_)
  · unfold gStr at q
    split at q
    · cases q; rfl
    · cases q
  · unfold gStr at q
    split at q
    · rename_i h
      cases q
      obtain ⟨h1, h2⟩ := Bool.and_eq_true_iff.mp h
      exact ⟨v, toD x, rfl, tp_dp a h1, h2, k⟩
    · cases q
/-- min, max of ints -/
def intsT : List Tr → Option (List Int)
  | [] => some []
  | .int i :: r => match intsT r with
    | some ns => some (i :: ns)
    | none => none
  | _ :: _ => none
theorem intsT_ok : ∀ {ts : List Tr} {ns : List Int} {xs : List V}, intsT ts = some ns → TpAll K G xs ts → xs = ns.map V.int
  | [], _, _, q, al => by cases q; cases al; rfl
  | t :: ts, ns, xs, q, al => by
    cases al with
    | cons a al =>
      cases t with
      | int b =>
        cases z : intsT ts with
        | none => simp [intsT, z] at q
        | some bs' =>
          simp only [intsT, z, Option.some.injEq] at q
          subst q
          cases a
          rw [intsT_ok z al]
          rfl
      | _ => cases q
theorem intsT_map (ns : List Int) : intsT (ns.map .int) = some ns := by
  induction ns with
  | nil => rfl
  | cons a t ih => simp [intsT, ih]
end
end Ev

namespace Ev
open PySem L2 Evl Dl
/-! ### min of things whose order hangs on the heap -/
open PySem.Spec PyProof.Rows in
section
variable {pr : Program} {wo : World} {ar : Around} {RR : Result → Shared → Prop} {it : Addr} {fo wt : List Addr} {nn : Nat} {PP : Nat → Value → Prop} {Sta : Nat → Heap → Prop}
/-- all of h0 stands, but for what is written -/
def KeptH (h0 : Heap) (wt : List Addr) (S : Addr) (h : Heap) : Prop := ∀ b o, b ∉ wt → b ≠ S → h0.get? b = some o → h.get? b = some o
def CmpAt (pr : Program) (wo : World) (ar : Around) (PP : Nat → Value → Prop) (bt : Nat → Nat → Bool) (Kp : Heap → Prop) : Prop :=
  ∀ i j u v (sh : Shared) (QQ : Value → Shared → Prop) (EE : Value → Shared → Prop), Kp sh.heap → PP i u → PP j v → QQ (.bool (bt i j)) sh → wpAny (model pr wo) ar (richCompare .Lt u v) QQ EE sh
abbrev cellO (vb : Array Value) (c : Nat) : Obj := { cls := .type "list", dict := none, data := .seq vb c, slots := #[] }
theorem min_turns (Wk : Walks pr wo ar.in1 it fo wt nn PP Sta) (bt : Nat → Nat → Bool) (h0 : Heap) (cl : Addr) (off : cl ∉ fo) (cmp : CmpAt pr wo ar.in1 PP bt (KeptH h0 wt cl)) :
    ∀ (k j : Nat) (sh : Shared) (vb : Value) (c : Nat), nn - (j + 1) = k → j + 1 ≤ nn → Sta (j + 1) sh.heap → PP (argBest bt j) vb → KeptH h0 wt cl sh.heap → sh.heap.get? cl = some (cellO #[vb, vb] c) →
    (∀ v hp tk, PP (argBest bt (nn - 1)) v → KeptH sh.heap wt cl hp → RR (.ok (.ret v)) { sh with heap := hp, toks := tk }) → codeAny (model pr wo) ar (.builtin "min.loop" ⟨[.ref it, .none, .ref cl], []⟩) RR sh := by
  have offw : cl ∉ wt := fun z => off (Wk.sub _ z)
  have nm : (toString "min" ++ toString ".loop" : String) = "min.loop" := by decide
  intro k
  induction k with
  | zero =>
    intro j sh vb c hk hj st pb kp hS fin
    have last : j + 1 = nn := by omega
    refine codeAny_builtin F.entry_min_loop ?_; rw [Around.under_plainId F.plain_min_loop _]
    show wpAny _ ar.in1 (seqItems? (.ref cl) >>= _) _ _ sh
    refine wpAny_bind (wpAny_seqItems hS rfl ?_); show wpAny _ ar.in1 (tryCatch (pyNext (.ref it)) _ >>= _) _ _ sh
    refine wpAny_bind (wpAny_tryCatch (Wk.done sh _ _ (last ▸ st) fun hp tk kk => ?_)); have hS2 := kk cl _ offw hS
    show wpAny _ ar.in1 (updateSeq cl (fun _ => #[]) >>= _) _ _ _
    refine wpAny_bind (wpAny_updateSeq hS2 rfl (wpAny_bind (wpAny_letGo (wpAny_pure ?_))))
    exact fin vb _ tk (by rw [← last]; exact pb) fun b o b1 b2 q => (Heap.get?_update_other _ _ (Ne.symm b2)).trans (kk b o b1 q)
  | succ k ih =>
    intro j sh vb c hk hj st pb kp hS fin
    have more : j + 1 < nn := by omega
    refine codeAny_builtin F.entry_min_loop ?_; rw [Around.under_plainId F.plain_min_loop _]
    show wpAny _ ar.in1 (seqItems? (.ref cl) >>= _) _ _ sh
    refine wpAny_bind (wpAny_seqItems hS rfl ?_); show wpAny _ ar.in1 (tryCatch (pyNext (.ref it)) _ >>= _) _ _ sh
    refine wpAny_bind (wpAny_tryCatch (Wk.item (j + 1) sh _ _ more st fun v hp tk pv st2 kk => ?_)); have hS2 := kk cl _ offw hS
    have kp2 : KeptH h0 wt cl hp := fun b o b1 b2 q => kk b o b1 (kp b o b1 b2 q)
    show wpAny _ ar.in1 (tryCatch (holding [v, v] (richCompare .Lt v vb >>= _)) _ >>= _) _ _ _
    refine wpAny_bind (wpAny_tryCatch (wpAny_holding (wpAny_bind (cmp (j + 1) (argBest bt j) v vb _ _ _ kp2 pv pb ?_))))
    refine wpAny_bind (wpAny_holding (wpAny_truthy_bool ?_)); refine wpAny_bind (wpAny_letGo (wpAny_pure ?_))
    cases hb : bt (j + 1) (argBest bt j) with
    | true =>
      simp only [if_true]
      refine wpAny_bind (wpAny_updateSeq hS2 rfl (wpAny_bind (wpAny_letGo ?_))); rw [nm]
      refine wpAny_pure ⟨plainId_quiet F.plain_min_loop _, ih (j + 1) _ v _ (by omega) more (Wk.frame _ _ _ st2 fun b bf o q => ?_) (by simp only [argBest, hb, if_true]; exact pv) (fun b o b1 b2 q => ?_) (Heap.get?_update_self _ hS2 rfl) fun v2 h2 t2 p2 k2 => ?_⟩
      · exact (Heap.get?_update_other _ _ (fun z : cl = b => off (by rw [z]; exact bf))).trans q
      · exact (Heap.get?_update_other _ _ (Ne.symm b2)).trans (kp2 b o b1 b2 q)
      · exact fin v2 h2 t2 p2 fun b o b1 b2 q => k2 b o b1 b2 ((Heap.get?_update_other _ _ (Ne.symm b2)).trans (kk b o b1 q))
    | false =>
      simp only [Bool.false_eq_true, if_false]
      refine wpAny_bind (wpAny_letGo ?_); rw [nm]
      exact wpAny_pure ⟨plainId_quiet F.plain_min_loop _, ih (j + 1) _ vb c (by omega) more st2 (by simp only [argBest, hb, Bool.false_eq_true, if_false]; exact pb) kp2 hS2 fun v2 h2 t2 p2 k2 => fin v2 h2 t2 p2 fun b o b1 b2 q => k2 b o b1 b2 (kk b o b1 q)⟩
theorem min_walkH {EE : Value → Shared → Prop} {sh : Shared} {x : Value} {QQ : Value → Shared → Prop}
    (h : wpAny (model pr wo) ar.in1 (pyIter x) (fun r s2 => ∃ it fo wt nn PP Sta bt, r = .ref it ∧ Walks pr wo ar.in1 it fo wt nn PP Sta ∧ Sta 0 s2.heap ∧ (∀ b ∈ fo, b < s2.heap.objs.size) ∧ 0 < nn ∧ CmpAt pr wo ar.in1 PP bt (KeptH s2.heap wt s2.heap.objs.size) ∧
      ∀ v hp tk, PP (argBest bt (nn - 1)) v → (∀ b o, b ∉ wt → s2.heap.get? b = some o → hp.get? b = some o) → QQ v { s2 with heap := hp, toks := tk }) EE sh) :
    wpAny (model pr wo) ar (call (.builtin "min") [x]) QQ EE sh := by
  have nm : (toString "min" ++ toString ".loop" : String) = "min.loop" := by decide
  refine call_function_tree F.kind_min F.plain_min F.entry_min (F.args_min1 _) ?_; show wpAny _ ar.in1 (Builtin.Builtins.bindParams "min" ["key", "default"] 0 ⟨[], []⟩ >>= _) _ _ sh
  refine wpAny_bind (wpAny_of_eq (show Builtin.Builtins.bindParams "min" ["key", "default"] 0 ⟨[], []⟩ = pure [none, none] from rfl) ?_); refine wpAny_bind (wpAny_pure ?_)
  refine wpAny_bind (wpAny_mono h (fun r s2 q => ?_) fun _ _ z => z)
  obtain ⟨it, fo, wt, nn, PP, Sta, bt, rfl, Wk, st, fp, pos, cmp, fin⟩ := q
  refine wpAny_bind (wpAny_newObj_type ?_)
  have off : s2.heap.objs.size ∉ fo := fun z => Nat.lt_irrefl _ (fp _ z)
  have offw : s2.heap.objs.size ∉ wt := fun z => off (Wk.sub _ z)
  rw [nm]
  refine wpAny_pure ⟨plainId_quiet F.plain_min_loop _, ?_⟩
  -- the first turn
  refine codeAny_builtin F.entry_min_loop ?_; rw [Around.under_plainId F.plain_min_loop _]
  show wpAny _ ar.in1 (seqItems? (.ref s2.heap.objs.size) >>= _) _ _ _
  have hS : (s2.heap.push (cellO #[] 0)).get? s2.heap.objs.size = some (cellO #[] 0) := Heap.get?_push_size _ rfl
  refine wpAny_bind (wpAny_seqItems (Heap.get?_push_size _ rfl) rfl ?_); show wpAny _ ar.in1 (tryCatch (pyNext (.ref it)) _ >>= _) _ _ _
  refine wpAny_bind (wpAny_tryCatch (Wk.item 0 _ _ _ pos (Wk.frame _ _ _ st fun b _ o q => Heap.get?_push_of_some _ q) fun v hp tk pv st2 kk => ?_))
  have hS2 := kk s2.heap.objs.size _ offw (Heap.get?_push_size _ rfl)
  show wpAny _ ar.in1 (updateSeq s2.heap.objs.size (fun _ => #[v, v]) >>= _) _ _ _
  refine wpAny_bind (wpAny_updateSeq hS2 rfl ?_); rw [nm]
  refine wpAny_pure ⟨plainId_quiet F.plain_min_loop _, min_turns Wk bt s2.heap s2.heap.objs.size off cmp _ 0 _ v _ rfl pos (Wk.frame _ _ _ st2 fun b bf o q => ?_) pv (fun b o b1 b2 q => ?_) (Heap.get?_update_self _ hS2 rfl) fun v2 h2 t2 p2 k2 => ?_⟩
  · exact (Heap.get?_update_other _ _ (fun z : s2.heap.objs.size = b => off (by rw [z]; exact bf))).trans q
  · exact (Heap.get?_update_other _ _ (Ne.symm b2)).trans (kk b o b1 (Heap.get?_push_of_some _ q))
  · refine fin v2 h2 t2 p2 fun b o b1 q => ?_
    have b2 : b ≠ s2.heap.objs.size := Nat.ne_of_lt (Heap.lt_size q)
    exact k2 b o b1 b2 ((Heap.get?_update_other _ _ (Ne.symm b2)).trans (kk b o b1 (Heap.get?_push_of_some _ q)))
end
/-! ### the order of tuples -/
def ltL : List Int → List Int → Bool := HT.lexLt
def minFrom (b : List Int) : List (List Int) → List Int
  | [] => b
  | x :: r => minFrom (if ltL x b = true then x else b) r
def minL : List (List Int) → Option (List Int)
  | [] => none
  | x :: r => some (minFrom x r)
theorem minFrom_app (y : List Int) : ∀ (l : List (List Int)) (b : List Int), minFrom b (l ++ [y]) = if ltL y (minFrom b l) = true then y else minFrom b l
  | [], b => rfl
  | x :: l, b => by
    show minFrom _ (l ++ [y]) = _
    rw [minFrom_app y l]
    rfl
theorem best_min (x : List Int) (r : List (List Int)) : ∀ k : Nat, k ≤ r.length → (x :: r).getD (argBest (fun i j => ltL ((x :: r).getD i []) ((x :: r).getD j [])) k) [] = minFrom x (r.take k) ∧ argBest (fun i j => ltL ((x :: r).getD i []) ((x :: r).getD j [])) k ≤ k
  | 0, _ => ⟨rfl, Nat.le_refl _⟩
  | k + 1, h => by
    obtain ⟨ih, ih2⟩ := best_min x r k (by omega)
    have hk : k < r.length := by omega
    have e1 : r.take (k + 1) = r.take k ++ [r[k]] := by rw [List.take_add_one, List.getElem?_eq_getElem hk]; rfl
    have e2 : (x :: r).getD (k + 1) [] = r[k] := by
      rw [List.getD_cons_succ, List.getD_eq_getElem?_getD, List.getElem?_eq_getElem hk]
      rfl
    unfold argBest
    rw [e1, minFrom_app, e2, ih]
    split
    · exact ⟨by rw [e2], Nat.le_refl _⟩
    · exact ⟨ih, by omega⟩
section
variable {X : Cx} {K : PySem.W.Frag} {f : Fx} {W : WX} {G G' H H' : Hp} {n : Nat} {σ : St} {e : Env} {o r tm tmp : List (Addr × List En)} {ds : List Dv} {vs : List V}
def rMinLT (K : PySem.W.Frag) : List V → Hp → VK → Prop := fun vs H Q => ∃ (a : Addr) (xs : List V) (ls : List (List Int)), vs = [.ref a] ∧ SqL K H a xs ∧ Paired (TupI K H) xs ls ∧ ls ≠ [] ∧
  ∀ k v, k < ls.length → xs[k]? = some v → minL ls = some (ls.getD k []) → Q v H
open PySem.Spec PyProof.Rows in
theorem cr_minLT (hc : X.calm = true) (hu : X.A.units + 64 < cLine) : CallR X (.builtin "min") (rMinLT X.K) := by
  intro pins s σ H vs us Q I r h
  obtain ⟨a, xs, ls, rfl, hs, hp, hne, q⟩ := h
  obtain ⟨its, rv, hl, _⟩ := I.list hs
  rw [Vals.ref1 r]
  have hlt : a < s.heap.objs.size := by obtain ⟨_, e, _⟩ := hl.isList; exact Heap.lt_size e
  have hxl : xs.length = ls.length := hp.length
  have hil : its.length = xs.length := rv.length.symm
  have hpos : 0 < ls.length := List.length_pos_iff.mpr hne
  refine min_walkH (wpAny_pyIter_list hl.isList ?_)
  refine ⟨_, [_, a], [_], _, _, _, (fun i j => ltL (ls.getD i []) (ls.getD j [])), rfl, Walks.list (A := X.A.in1) (I.ok.hd hc) _ a (Nat.ne_of_lt hlt) its.toArray, ⟨⟨_, Heap.get?_push_size _ rfl, rfl, rfl⟩, hl.isList.push _⟩, fun b hb => ?_, by rw [List.size_toArray]; omega, ?_, fun v h' tk hP hk => ?_⟩
  · show b < (s.heap.push _).objs.size
    rw [Heap.size_push]
    rcases List.mem_cons.mp hb with rfl | hb
    · exact Nat.lt_succ_self _
    · rcases List.mem_cons.mp hb with rfl | hb
      · exact Nat.lt_succ_of_lt hlt
      · cases hb
  · intro i j u v sh QQ EE kp hi hj hq
    have look : ∀ {i : Nat} {u : Value}, its.toArray[i]? = some u → ∃ l its2, u = .ref l ∧ IsTup s.heap l its2.toArray ∧ IntsAre its2 (ls.getD i []) := fun {i u} hi => by
      have hi' : its[i]? = some u := by simpa using hi
      have hlen : i < xs.length := by
        have := (List.getElem?_eq_some_iff.mp hi').1
        omega
      have hx : xs[i]? = some xs[i] := List.getElem?_eq_getElem hlen
      obtain ⟨u2, q1, q2⟩ := Vals.get rv hx
      rw [hi'] at q1
      cases q1
      have hls : ls[i]? = some ls[i] := List.getElem?_eq_getElem (by omega)
      have pr : TupI X.K H xs[i] ls[i] := by
        have key : ∀ {xs : List V} {ls : List (List Int)}, Paired (TupI X.K H) xs ls → ∀ (i : Nat) (x : V) (l : List Int), xs[i]? = some x → ls[i]? = some l → TupI X.K H x l := by
          intro xs ls hh
          induction hh with
          | nil => intro i x l h1; simp at h1
          | cons a t ih =>
            intro i x l h1 h2
            cases i with
            | zero =>
              simp only [List.getElem?_cons_zero, Option.some.injEq] at h1 h2
              subst h1 h2
              exact a
            | succ i => exact ih i x l (by simpa using h1) (by simpa using h2)
        exact key hp i _ _ hx hls
      obtain ⟨t, e1, sq⟩ := pr
      rw [e1] at q2
      cases q2
      obtain ⟨its2, r2, p2, _⟩ := I.tuple sq
      refine ⟨t, its2, rfl, p2, ?_⟩
      rw [List.getD_eq_getElem?_getD, hls]
      exact intsAre_of r2
    obtain ⟨l1, i1, rfl, t1, n1⟩ := look hi
    obtain ⟨l2, i2, rfl, t2, n2⟩ := look hj
    have keep : ∀ {l : Addr} {its2 : List Value}, IsTup s.heap l its2.toArray → IsTup sh.heap l its2.toArray := fun {l its2} ⟨ob, g1, g2⟩ => by
      have hb := Heap.lt_size g1
      refine ⟨ob, kp l ob (fun z => ?_) ?_ (Heap.get?_push_of_some _ g1), g2⟩
      · rcases List.mem_cons.mp z with z | z
        · rw [z] at hb
          exact Nat.lt_irrefl _ hb
        · cases z
      · intro z
        have z' : l = (s.heap.objs.size + 1) := by rw [z]; exact Heap.size_push _ _
        rw [z'] at hb
        exact absurd hb (Nat.not_lt.mpr (Nat.le_succ _))
    exact HT.lt_tupInts (keep t1) (keep t2) n1 n2 (by have : X.A.in1.units ≤ X.A.units + 1 := by first | exact Nat.le_refl _ | simp [Around.in1]
                                                      omega) hq
  · obtain ⟨x, rr, hx⟩ : ∃ x rr, ls = x :: rr := by
      cases ls with
      | nil => exact absurd rfl hne
      | cons x rr => exact ⟨x, rr, rfl⟩
    subst hx
    obtain ⟨b1, b2⟩ := best_min x rr rr.length (Nat.le_refl _)
    have hsz : its.toArray.size - 1 = rr.length := by
      rw [List.size_toArray, hil, hxl]
      rfl
    rw [hsz] at hP
    generalize hB : argBest (fun i j => ltL ((x :: rr).getD i []) ((x :: rr).getD j [])) rr.length = B at hP b1 b2
    have hP' : its[B]? = some v := by simpa using hP
    have hBx : B < xs.length := by
      have := (List.getElem?_eq_some_iff.mp hP').1
      omega
    have hxB : xs[B]? = some xs[B] := List.getElem?_eq_getElem hBx
    obtain ⟨u2, q1, q2⟩ := Vals.get rv hxB
    rw [hP'] at q1
    cases q1
    refine ⟨xs[B], H, I.kept (t' := tk) fun b o e => hk b o (fun hm => ?_) (Heap.get?_push_of_some _ e), q2, q B _ (by omega) hxB ?_⟩
    · rcases List.mem_cons.mp hm with z | z
      · exact absurd (z ▸ Heap.lt_size e) (Nat.lt_irrefl _)
      · cases z
    · rw [b1, List.take_length]
      rfl
/-! ### lists of tuples of ints -/
def tupsT : List Tr → Option (List (List Int))
  | [] => some []
  | .tup us :: r => match intsT us, tupsT r with
    | some ns, some ls => some (ns :: ls)
    | _, _ => none
  | _ :: _ => none
def trI (ns : List Int) : Tr := .tup (ns.map .int)
theorem intsT_eq : ∀ {ts : List Tr} {ns : List Int}, intsT ts = some ns → ts = ns.map .int
  | [], _, q => by cases q; rfl
  | t :: ts, ns, q => by
    cases t with
    | int b =>
      cases z : intsT ts with
      | none => simp [intsT, z] at q
      | some bs' =>
        simp only [intsT, z, Option.some.injEq] at q
        subst q
        rw [intsT_eq z]
        rfl
    | _ => cases q
theorem tupsT_eq : ∀ {ts : List Tr} {ls : List (List Int)}, tupsT ts = some ls → ts = ls.map trI
  | [], _, q => by cases q; rfl
  | t :: ts, ns, q => by
    cases t with
    | tup us =>
      cases z1 : intsT us with
      | none => simp [tupsT, z1] at q
      | some a =>
        cases z : tupsT ts with
        | none => simp [tupsT, z1, z] at q
        | some bs' =>
          simp only [tupsT, z1, z, Option.some.injEq] at q
          subst q
          rw [tupsT_eq z, intsT_eq z1]
          rfl
    | _ => cases q
theorem tupsT_map (ls : List (List Int)) : tupsT (ls.map trI) = some ls := by
  induction ls with
  | nil => rfl
  | cons a t ih => simp [tupsT, trI, intsT_map, ih]
theorem tupI_of {v : V} {ns : List Int} (h : Tp K H v (trI ns)) : TupI K H v ns := by
  cases h with
  | tup sq al =>
    have := intsT_ok (intsT_map ns) al
    subst this
    exact ⟨_, rfl, sq⟩
theorem tupsI_of : ∀ {ls : List (List Int)} {xs : List V}, TpAll K H xs (ls.map trI) → Paired (TupI K H) xs ls
  | [], _, h => by cases h; exact .nil
  | l :: ls, _, h => by
    cases h with
    | cons a b => exact .cons (tupI_of a) (tupsI_of b)
/-- min of a list: of ints, of tuples of ints -/
def minInt : List Int → Option Int
  | [] => none
  | x :: r => some (r.foldl (fun a b => if b < a then b else a) x)
def rMinU (K : PySem.W.Frag) : List V → Hp → VK → Prop := fun vs H Q => rMin K vs H Q ∨ (rMinT K vs H Q ∨ rMinLT K vs H Q)
theorem cr_minU (hc : X.calm = true) (hu : X.A.units + 64 < cLine) : CallR X (.builtin "min") (rMinU X.K) := CallR.or (cr_min hc) (CallR.or (cr_minT hc) (cr_minLT hc hu))
def oMin1 : Env → List Dv → M (Env × Dv) := fun e ds => match ds with
  | [d] => match seqv e d with
    | some (b, ts) => match intsT ts with
      | some ns => match minInt ns with
        | some m => .ret (e, .t (.int m))
        | none => .bad
      | none => match b, tupsT ts with
        | false, some ls => match minL ls with
          | some m => .ret (e, .t (trI m))
          | none => .bad
        | _, _ => .bad
    | none => .bad
  | _ => .bad
theorem minInt_ok {ns : List Int} {m : Int} (h : minInt ns = some m) {k : Int} (h1 : k ∈ ns) (h2 : ∀ y ∈ ns, k ≤ y) : k = m := by
  cases ns with
  | nil => cases h
  | cons x r =>
    simp only [minInt, Option.some.injEq] at h
    have key : ∀ (r : List Int) (x : Int), (r.foldl (fun a b => if b < a then b else a) x ∈ x :: r) ∧ ∀ y ∈ x :: r, r.foldl (fun a b => if b < a then b else a) x ≤ y := by
      intro r
      induction r with
      | nil => intro x; simp
      | cons y r ih =>
        intro x
        obtain ⟨a, b⟩ := ih (if y < x then y else x)
        simp only [List.foldl_cons]
        refine ⟨?_, fun z hz => ?_⟩
        · rcases List.mem_cons.mp a with a | a
          · rw [a]
            split <;> simp
          · exact List.mem_cons_of_mem _ (List.mem_cons_of_mem _ a)
        · have hb := b (if y < x then y else x) (List.mem_cons_self ..)
          have hle : (if y < x then y else x) ≤ x ∧ (if y < x then y else x) ≤ y := by
            split <;> omega
          rcases List.mem_cons.mp hz with rfl | hz
          · exact Int.le_trans hb hle.1
          · rcases List.mem_cons.mp hz with rfl | hz
            · exact Int.le_trans hb hle.2
            · exact b z (List.mem_cons_of_mem _ hz)
    obtain ⟨a, b⟩ := key r x
    rw [h] at a b
    have := h2 m a
    have := b k h1
    omega
theorem os_min1 : OS K f W (fun _ => rMinU K) oMin1 := fun n tmp e G H σ ds vs Q X s xw w => by
  unfold oMin1 at w
  split at w
  · rename_i d
    obtain ⟨v, rfl⟩ := vs1 s
    have sm := svs_sem s
    split at w
    · rename_i b ts q
      obtain ⟨a, xs, rfl, sq, al⟩ := svs_seq s q
      split at w
      · rename_i ns q2
        split at w
        · rename_i m q3
          have hx := intsT_ok q2 al
          subst hx
          have hpos : 0 < ns.length := by
            cases ns with
            | nil => cases q3
            | cons _ _ => exact Nat.succ_pos _
          cases b with
          | false =>
            refine .inl ⟨a, ns, rfl, sq_of sq, hpos, fun k h1 h2 => ?_⟩
            rw [minInt_ok q3 h1 h2]
            exact w _ G H (Ex.refl G) (sv_t sm (.int _))
          | true =>
            refine .inr (.inl ⟨a, ns, rfl, sq, hpos, fun k h1 h2 => ?_⟩)
            rw [minInt_ok q3 h1 h2]
            exact w _ G H (Ex.refl G) (sv_t sm (.int _))
        · exact w.elim
      · split at w
        · rename_i ls q2
          split at w
          · rename_i m q3
            have ht := tupsT_eq q2
            subst ht
            refine .inr (.inr ⟨a, xs, ls, rfl, sq_of sq, tupsI_of (al.mono sm.ex), ?_, fun k v hk hv hm => ?_⟩)
            · intro z
              rw [z] at q3
              cases q3
            · obtain ⟨d, hd, tp⟩ := al.getV hv
              rw [List.getElem?_map, List.getElem?_eq_getElem hk] at hd
              cases hd
              rw [q3] at hm
              cases hm
              rw [List.getD_eq_getElem?_getD, List.getElem?_eq_getElem hk] at w
              exact w _ G H (Ex.refl G) (sv_t sm tp)
          · exact w.elim
        · exact w.elim
    · exact w.elim
  · exact w.elim
end
end Ev

namespace Ev
open PySem L2 Evl Dl
/-! ### order -/
def insL (x : List Int) : List (List Int) → List (List Int)
  | [] => [x]
  | y :: r => if ltL y x = true then y :: insL x r else x :: y :: r
def sortL : List (List Int) → List (List Int)
  | [] => []
  | x :: r => insL x (sortL r)
theorem insL_perm (x : List Int) : ∀ l, (insL x l).Perm (x :: l)
  | [] => .refl _
  | y :: r => by
    unfold insL
    split
    · exact ((insL_perm x r).cons y).trans (.swap _ _ _)
    · exact .refl _
theorem sortL_perm : ∀ l, (sortL l).Perm l
  | [] => .refl _
  | x :: r => (insL_perm x _).trans ((sortL_perm r).cons x)
theorem lex_irr : ∀ a : List Int, HT.lexLt a a = false
  | [] => rfl
  | x :: r => by simp [HT.lexLt, lex_irr r]
theorem lex_tri : ∀ {a b : List Int}, a.length = b.length → HT.lexLt a b = false → HT.lexLt b a = false → a = b
  | [], [], _, _, _ => rfl
  | x :: r, y :: q, h, h1, h2 => by
    simp only [HT.lexLt] at h1 h2
    by_cases hx : x = y
    · subst hx
      simp only [if_true] at h1 h2
      rw [lex_tri (by simpa using h) h1 h2]
    · have hy : ¬ y = x := fun z => hx z.symm
      simp only [hx, hy, if_false, decide_eq_false_iff_not] at h1 h2
      omega
  | [], _ :: _, h, _, _ => by simp at h
  | _ :: _, [], h, _, _ => by simp at h
theorem lex_trans : ∀ {a b c : List Int}, a.length = b.length → b.length = c.length → HT.lexLt b a = false → HT.lexLt c b = false → HT.lexLt c a = false
  | [], [], [], _, _, _, _ => rfl
  | x :: r, y :: q, z :: s, h, h', h1, h2 => by
    simp only [HT.lexLt] at h1 h2 ⊢
    by_cases hx : y = x
    · subst hx
      simp only [if_true] at h1
      by_cases hz : z = y
      · subst hz
        simp only [if_true] at h2 ⊢
        exact lex_trans (by simpa using h) (by simpa using h') h1 h2
      · simp only [hz, if_false] at h2 ⊢
        exact h2
    · simp only [hx, if_false, decide_eq_false_iff_not] at h1
      by_cases hz : z = y
      · subst hz
        have : ¬ z = x := hx
        simp only [this, if_false, decide_eq_false_iff_not]
        exact h1
      · simp only [hz, if_false, decide_eq_false_iff_not] at h2
        have : ¬ z = x := by omega
        simp only [this, if_false, decide_eq_false_iff_not]
        omega
  | [], _ :: _, _, h, _, _, _ => by simp at h
  | _ :: _, [], _, h, _, _, _ => by simp at h
  | [], [], _ :: _, _, h, _, _ => by simp at h
  | _ :: _, _ :: _, [], _, h, _, _ => by simp at h
theorem lex_asym : ∀ {a b : List Int}, a.length = b.length → HT.lexLt a b = true → HT.lexLt b a = false
  | [], [], _, h => by cases h
  | x :: r, y :: q, h, h1 => by
    simp only [HT.lexLt] at h1 ⊢
    by_cases hx : x = y
    · subst hx
      simp only [if_true] at h1 ⊢
      exact lex_asym (by simpa using h) h1
    · have hy : ¬ y = x := fun z => hx z.symm
      simp only [hx, if_false, decide_eq_true_eq] at h1
      simp only [hy, if_false, decide_eq_false_iff_not]
      omega
  | [], _ :: _, h, _ => by simp at h
  | _ :: _, [], h, _ => by simp at h
theorem sortL_sorted {d : Nat} : ∀ {l : List (List Int)}, (∀ a ∈ l, a.length = d) → (sortL l).Pairwise (fun a b => HT.lexLt b a = false)
  | [], _ => .nil
  | x :: r, h => by
    have ih := sortL_sorted (l := r) fun a m => h a (List.mem_cons_of_mem _ m)
    have hx := h x (List.mem_cons_self ..)
    have key : ∀ {l : List (List Int)}, (∀ a ∈ l, a.length = d) → l.Pairwise (fun a b => HT.lexLt b a = false) → (insL x l).Pairwise (fun a b => HT.lexLt b a = false) := by
      intro l
      induction l with
      | nil => exact fun _ _ => .cons (fun _ m => by cases m) .nil
      | cons y l ih2 =>
        intro hd hp
        cases hp with
        | cons h1 h2 =>
          have hy := hd y (List.mem_cons_self ..)
          unfold insL
          split
          · rename_i hlt
            refine .cons (fun a m => ?_) (ih2 (fun a m => hd a (List.mem_cons_of_mem _ m)) h2)
            rcases List.mem_cons.mp ((insL_perm x l).mem_iff.mp m) with rfl | m
            · exact lex_asym (by rw [hy, hx]) hlt
            · exact h1 a m
          · rename_i hlt
            have hxy : HT.lexLt y x = false := by
              cases z : HT.lexLt y x with
              | false => rfl
              | true => exact absurd z hlt
            refine .cons (fun a m => ?_) (.cons h1 h2)
            rcases List.mem_cons.mp m with rfl | m
            · exact hxy
            · exact lex_trans (b := y) (by rw [hx, hy]) (by rw [hy, hd a (List.mem_cons_of_mem _ m)]) hxy (h1 a m)
    exact key (fun a m => h a (List.mem_cons_of_mem _ ((sortL_perm r).mem_iff.mp m))) ih
theorem sorted_eq {α : Type} {le : α → α → Prop} : ∀ {L M : List α}, L.Perm M → L.Pairwise le → M.Pairwise le → (∀ a ∈ L, ∀ b ∈ L, le a b → le b a → a = b) → L = M
  | [], M, h, _, _, _ => (List.nil_perm.mp h).symm
  | x :: L, M, h, hL, hM, an => by
    cases M with
    | nil => exact absurd h.length_eq (by simp)
    | cons y M =>
      have e : x = y := by
        cases hL with
        | cons h1 _ =>
          cases hM with
          | cons h2 _ =>
            rcases List.mem_cons.mp (h.mem_iff.mpr (List.mem_cons_self ..) : y ∈ x :: L) with q | q
            · exact q.symm
            · rcases List.mem_cons.mp (h.mem_iff.mp (List.mem_cons_self ..) : x ∈ y :: M) with z | z
              · exact z
              · exact an x (List.mem_cons_self ..) y (List.mem_cons_of_mem _ q) (h1 y q) (h2 x z)
      subst e
      rw [sorted_eq h.cons_inv hL.tail hM.tail fun a ha b hb => an a (List.mem_cons_of_mem _ ha) b (List.mem_cons_of_mem _ hb)]
theorem code_lex {B : Int} : ∀ {a b : List Int}, a.length = b.length → TS.Bd B a → TS.Bd B b → (TS.code B a < TS.code B b ↔ HT.lexLt a b = true)
  | [], [], _, _, _ => by simp [TS.code, HT.lexLt]
  | x :: r, y :: q, h, ha, hb => by
    have hl : r.length = q.length := by simpa using h
    have ih := code_lex hl ha.tail hb.tail
    by_cases hx : x = y
    · subst hx
      rw [TS.code_same hl, ih]
      simp [HT.lexLt]
    · simp only [HT.lexLt, hx, if_false, decide_eq_true_eq]
      constructor
      · intro z
        by_cases hlt : x < y
        · exact hlt
        · have := TS.code_lt hl.symm hb.tail ha.tail (show y < x by omega)
          omega
      · intro z
        exact TS.code_lt hl ha.tail hb.tail z
  | [], _ :: _, h, _, _ => by simp at h
  | _ :: _, [], h, _, _ => by simp at h
theorem code_le {B : Int} {a b : List Int} (hl : a.length = b.length) (ha : TS.Bd B a) (hb : TS.Bd B b) (h : TS.code B a ≤ TS.code B b) : HT.lexLt b a = false := by
  cases q : HT.lexLt b a with
  | false => rfl
  | true =>
    have := (code_lex hl.symm hb ha).mpr q
    omega
theorem sorted_code {d : Nat} {B : Int} {L M : List (List Int)} (hp : L.Perm M) (hs : L.Pairwise (fun a b => TS.code B a ≤ TS.code B b)) (hb : ∀ a ∈ M, a.length = d ∧ TS.Bd B a) : L = sortL M := by
  have hL : ∀ a ∈ L, a.length = d ∧ TS.Bd B a := fun a m => hb a (hp.mem_iff.mp m)
  refine sorted_eq (le := fun a b => HT.lexLt b a = false) (hp.trans (sortL_perm M).symm) ?_ (sortL_sorted (d := d) fun a m => (hb a m).1) fun a ha b hb' h1 h2 => lex_tri (by rw [(hL a ha).1, (hL b hb').1]) h2 h1
  refine hs.imp_of_mem fun {a b} ma mb h => code_le (by rw [(hL a ma).1, (hL b mb).1]) (hL a ma).2 (hL b mb).2 h
/-- a bound -/
def bound : List (List Int) → Int
  | [] => 1
  | l :: r => max ((l.foldl max 0) + 1) (bound r)
theorem foldl_max (l : List Int) : ∀ b : Int, b ≤ l.foldl max b ∧ ∀ x ∈ l, x ≤ l.foldl max b := by
  induction l with
  | nil => exact fun b => ⟨Int.le_refl _, fun x m => by cases m⟩
  | cons y l ih =>
    intro b
    obtain ⟨h1, h2⟩ := ih (max b y)
    refine ⟨by simp only [List.foldl_cons]; omega, fun x m => ?_⟩
    rcases List.mem_cons.mp m with rfl | m
    · simp only [List.foldl_cons]; omega
    · exact h2 x m
theorem bound_ok {L : List (List Int)} (h : ∀ a ∈ L, ∀ i ∈ a, 0 ≤ i) : ∀ a ∈ L, TS.Bd (bound L) a := by
  have key : ∀ (L : List (List Int)), ∀ a ∈ L, ∀ i ∈ a, i < bound L := by
    intro L
    induction L with
    | nil => intro a m; cases m
    | cons l r ih =>
      intro a m i mi
      unfold bound
      rcases List.mem_cons.mp m with rfl | m
      · have := (foldl_max a 0).2 i mi
        omega
      · have := ih a m i mi
        omega
  exact fun a m i mi => ⟨h a m i mi, key L a m i mi⟩
def insI (x : Int) : List Int → List Int
  | [] => [x]
  | y :: r => if y < x then y :: insI x r else x :: y :: r
def sortI : List Int → List Int
  | [] => []
  | x :: r => insI x (sortI r)
theorem insI_perm (x : Int) : ∀ l, (insI x l).Perm (x :: l)
  | [] => .refl _
  | y :: r => by
    unfold insI
    split
    · exact ((insI_perm x r).cons y).trans (.swap _ _ _)
    · exact .refl _
theorem sortI_perm : ∀ l, (sortI l).Perm l
  | [] => .refl _
  | x :: r => (insI_perm x _).trans ((sortI_perm r).cons x)
theorem insI_sorted (x : Int) : ∀ {l : List Int}, l.Pairwise (· ≤ ·) → (insI x l).Pairwise (· ≤ ·)
  | [], _ => .cons (fun _ m => by cases m) .nil
  | y :: l, hp => by
    cases hp with
    | cons h1 h2 =>
      unfold insI
      split
      · refine .cons (fun a m => ?_) (insI_sorted x h2)
        rcases List.mem_cons.mp ((insI_perm x l).mem_iff.mp m) with rfl | m
        · omega
        · exact h1 a m
      · refine .cons (fun a m => ?_) (.cons h1 h2)
        rcases List.mem_cons.mp m with rfl | m
        · omega
        · have := h1 a m
          omega
theorem sortI_sorted : ∀ l : List Int, (sortI l).Pairwise (· ≤ ·)
  | [] => .nil
  | x :: r => insI_sorted x (sortI_sorted r)
theorem sortI_eq {L M : List Int} (hp : L.Perm M) (hs : L.Pairwise (· ≤ ·)) : L = sortI M := sorted_eq (hp.trans (sortI_perm M).symm) hs (sortI_sorted M) fun a _ b _ h1 h2 => by omega
section
variable {X : Cx} {K : PySem.W.Frag} {f : Fx} {W : WX} {G G' H H' : Hp} {n : Nat} {σ : St} {e : Env} {o r tm tmp : List (Addr × List En)} {ds : List Dv} {vs : List V}
theorem tpa_perm {ys xs : List V} (hp : ys.Perm xs) : ∀ {L : List (List Int)}, TpAll K G xs (L.map trI) → ∃ L' : List (List Int), L'.Perm L ∧ TpAll K G ys (L'.map trI) := by
  induction hp with
  | nil => exact fun h => ⟨_, .refl _, h⟩
  | cons x _ ih =>
    intro L h
    cases L with
    | nil => cases h
    | cons l L =>
      cases h with
      | cons a b =>
        obtain ⟨L', h1, h2⟩ := ih b
        exact ⟨l :: L', h1.cons l, .cons a h2⟩
  | swap x y l =>
    intro L h
    match L, h with
    | a :: b :: L, .cons h1 (.cons h2 h3) => exact ⟨b :: a :: L, .swap _ _ _, .cons h2 (.cons h1 h3)⟩
  | trans _ _ ih1 ih2 =>
    intro L h
    obtain ⟨L1, h1, h2⟩ := ih2 h
    obtain ⟨L2, h3, h4⟩ := ih1 h2
    exact ⟨L2, h3.trans h1, h4⟩
theorem tpa_codes {B : Int} (x : Ex G H) : ∀ {ys : List V} {L : List (List Int)}, TpAll K G ys (L.map trI) → ys.Pairwise (fun x y => ∀ n m, TupI K H x n → TupI K H y m → TS.code B n ≤ TS.code B m) → L.Pairwise (fun a b => TS.code B a ≤ TS.code B b)
  | [], [], _, _ => .nil
  | _ :: _, [], h, _ => by cases h
  | [], _ :: _, h, _ => by cases h
  | y :: ys, l :: L, h, hp => by
    cases h with
    | cons a b =>
      cases hp with
      | cons h1 h2 =>
        refine .cons (fun m mm => ?_) (tpa_codes x b h2)
        obtain ⟨i, hi, rfl⟩ := List.mem_iff_getElem.mp mm
        have hg : (L.map trI)[i]? = some (trI L[i]) := by rw [List.getElem?_map, List.getElem?_eq_getElem hi]; rfl
        obtain ⟨v, hv, tv⟩ := b.get hg
        exact h1 v (List.mem_of_getElem? hv) _ _ (tupI_of (a.mono x)) (tupI_of (tv.mono x))
/-- sorted: of ints, of tuples of ints -/
def rSortE (K : PySem.W.Frag) : List V → Hp → VK → Prop := fun vs H Q => ∃ d B, 1 ≤ d ∧ rSortU K d B vs H Q
theorem cr_sortE : CallR X (.builtin "sorted") (rSortE X.K) := by
  intro pins s σ H vs us Q I r h
  obtain ⟨d, B, hd, h⟩ := h
  exact cr_sortT hd pins s σ H vs us Q I r h
def rSortAny (K : PySem.W.Frag) : List V → Hp → VK → Prop := fun vs H Q => rSortedI K vs H Q ∨ rSortE K vs H Q
theorem cr_sortAny : CallR X (.builtin "sorted") (rSortAny X.K) := CallR.or cr_sortedI cr_sortE
def okSort (ls : List (List Int)) : Bool := match ls with
  | [] => true
  | l :: _ => decide (1 ≤ l.length) && ls.all (fun a => decide (a.length = l.length) && a.all fun i => decide (0 ≤ i)) && decide (ls.length < 64)
theorem okSort_ok {ls : List (List Int)} (h : okSort ls = true) (hne : ls ≠ []) : ∃ d, 1 ≤ d ∧ ls.length < 64 ∧ ∀ a ∈ ls, a.length = d ∧ TS.Bd (bound ls) a := by
  cases ls with
  | nil => exact absurd rfl hne
  | cons l r =>
    unfold okSort at h
    simp only [Bool.and_eq_true, decide_eq_true_eq, List.all_eq_true] at h
    obtain ⟨⟨h1, h2⟩, h3⟩ := h
    refine ⟨l.length, h1, h3, fun a m => ⟨(h2 a m).1, bound_ok (fun a m => (h2 a m).2) a m⟩⟩
def oSort : Env → List Dv → M (Env × Dv) := fun e ds => match ds with
  | [d] => match seqv e d with
    | some (false, ts) => match intsT ts with
      | some ns => .ret (e, .fr ((sortI ns).map .int))
      | none => match tupsT ts with
        | some ls => if okSort ls = true then .ret (e, .fr ((sortL ls).map trI)) else .bad
        | none => .bad
    | _ => .bad
  | _ => .bad
theorem os_sort : OS K f W (fun _ => rSortAny K) oSort := fun n tmp e G H σ ds vs Q X s xw w => by
  unfold oSort at w
  split at w
  · rename_i d
    obtain ⟨v, rfl⟩ := vs1 s
    have sm := svs_sem s
    split at w
    · rename_i ts q
      obtain ⟨a, xs, rfl, sq, al⟩ := svs_seq s q
      split at w
      · rename_i ns q2
        have hx := intsT_ok q2 al
        subst hx
        refine .inl ⟨a, ns, rfl, sq_of sq, fun ns' p h1 h2 hp => ?_⟩
        rw [sortI_eq h1 h2]
        exact w _ G _ (Ex.refl G) (sm.ownNew hp tpa_ints)
      · rename_i q0
        split at w
        · rename_i ls q2
          split at w
          · rename_i ok
            have ht := tupsT_eq q2
            subst ht
            have hne : ls ≠ [] := by
              intro z
              subst z
              simp [intsT] at q0
            obtain ⟨d, hd, h64, hb⟩ := okSort_ok ok hne
            have hlen : xs.length = ls.length := by rw [al.len, List.length_map]
            refine .inr ⟨d, bound ls, hd, a, xs, rfl, sq_of sq, by rw [hlen]; exact h64, fun x mx => ?_, fun ys p hp hs hq => ?_⟩
            · obtain ⟨i, hi, rfl⟩ := List.mem_iff_getElem.mp mx
              obtain ⟨t, ht, tp⟩ := al.getV (List.getElem?_eq_getElem hi)
              have hil : i < ls.length := by omega
              rw [List.getElem?_map, List.getElem?_eq_getElem hil] at ht
              cases ht
              obtain ⟨b1, b2⟩ := hb _ (List.getElem_mem hil)
              exact ⟨_, tupI_of (tp.mono sm.ex), b1, b2⟩
            · obtain ⟨L', p1, t1⟩ := tpa_perm hp al
              have e1 := sorted_code p1 (tpa_codes sm.ex t1 hs) hb
              subst e1
              exact w _ G _ (Ex.refl G) (sm.ownNew hq t1)
          · exact w.elim
        · exact w.elim
    · exact w.elim
  · exact w.elim
/-! ### the module's table of tuples -/
def oInW (tab : List (List Int × Str)) : Env → List Dv → M (Env × Dv) := fun e ds => match ds with
  | [d, .vv _] => match view e d with
    | some (.tup us) => match intsT us with
      | some ns => .ret (e, .t (.bl (tab.find? (fun y => decide (y.1 = ns))).isSome))
      | none => .bad
    | _ => .bad
  | _ => .bad
theorem os_inW {dW : Addr} {tab : List (List Int × Str)} : OS K f W (fun _ vs H Q => ∃ x y, vs = [x, y] ∧ (y = .ref dW → rInW K dW tab x y H Q)) (oInW tab) := fun n tmp e G H σ ds vs Q X s xw w => by
  unfold oInW at w
  split at w
  · rename_i d c
    obtain ⟨v, u, rfl⟩ := vs2 s
    have sm := svs_sem s
    refine ⟨v, u, rfl, fun hu => ?_⟩
    split at w
    · rename_i us q
      have tz := svs_view s q
      split at w
      · rename_i ns q2
        rw [intsT_eq q2] at tz
        obtain ⟨a, rfl, sq⟩ := tupI_of tz
        exact ⟨a, ns, rfl, hu, sq, w _ G H (Ex.refl G) (sv_t sm (.bl _))⟩
      · exact w.elim
    · exact w.elim
  · exact w.elim
theorem se_inW {dW : Addr} {tab : List (List Int × Str)} {ta : TE} {a : Env → M (Env × Dv)} (ha : SE K f W ta a) : SE K f W (tOp (rInW K dW tab) ta (tC (.ref dW))) (evO (oInW tab) (aCons a (aCons (eV (.ref dW)) aNil))) := fun n tmp e G H σ Q X s xw w => by
  refine ha n tmp e G H σ _ X s xw (wp_imp (wpb (wpb w)) fun n1 p w1 v G1 H1 x1 sv => ?_)
  obtain ⟨tm, dk, s1⟩ := sv
  have svs : SVs K f n1 tmp p.1 G1 H1 σ [p.2, .vv (.ref dW)] [v, .ref dW] := ⟨tm ++ [], dk.cat (.vv .nil), by rw [List.append_nil]; exact s1⟩
  obtain ⟨x, y, e1, e2⟩ := os_inW (dW := dW) (tab := tab) n1 tmp p.1 G1 H1 σ _ _ Q X svs xw (wp_imp w1 fun n2 r hr v G2 H2 x2 => hr v G2 H2 (x1.trans x2))
  cases e1
  exact e2 rfl
def oGetW (tab : List (List Int × Str)) : Env → List Dv → M (Env × Dv) := fun e ds => match ds with
  | [.vv _, d] => match view e d with
    | some (.tup us) => match intsT us with
      | some ns => match tab.find? (fun y => decide (y.1 = ns)) with
        | some z => .ret (e, .t (.str z.2))
        | none => .bad
      | none => .bad
    | _ => .bad
  | _ => .bad
theorem se_getW {dW : Addr} {tab : List (List Int × Str)} {ta : TE} {a : Env → M (Env × Dv)} (ha : SE K f W ta a) : SE K f W (tOp (rGetW K dW tab) (tC (.ref dW)) ta) (evO (oGetW tab) (aCons (eV (.ref dW)) (aCons a aNil))) := fun n tmp e G H σ Q X s xw w => by
  have w' : wp (((a e).bind fun p => (aNil p.1).bind fun q => M.ret (q.1, p.2 :: q.2)).bind fun q => M.bind (M.ret (q.1, Dv.vv (.ref dW) :: q.2)) fun p => oGetW tab p.1 p.2) n (fun n' r => ∀ v G' H', Ex G G' → SV K f n' tmp r.1 G' H' σ r.2 v → Q v H') X := by
    have := w
    unfold evO aCons at this
    rw [← bind_assoc]
    exact this
  refine ha n tmp e G H σ _ X s xw (wp_imp (wpb (wpb w')) fun n1 p w1 v G1 H1 x1 sv => ?_)
  have w2 : wp (oGetW tab p.1 [.vv (.ref dW), p.2]) n1 (fun n' r => ∀ v G' H', Ex G G' → SV K f n' tmp r.1 G' H' σ r.2 v → Q v H') X := w1
  have sm := svs_sem sv
  unfold oGetW at w2
  simp only at w2
  split at w2
  · rename_i us q
    have tz := svs_view sv q
    split at w2
    · rename_i ns q2
      rw [intsT_eq q2] at tz
      obtain ⟨ad, rfl, sq⟩ := tupI_of tz
      split at w2
      · rename_i z q3
        exact ⟨ad, ns, z, rfl, rfl, sq, q3, w2 _ G1 H1 x1 (sv_t sm (.str _))⟩
      · exact w2.elim
    · exact w2.elim
  · exact w2.elim
/-- list(WORDS) -/
def eListW (tab : List (List Int × Str)) : Env → M (Env × Dv) := fun e => .ret (e, .fr (tab.map fun y => trI y.1))
theorem tpW {a : Addr} {ns : List Int} (h : tupInK K a ns = true) (G : Hp) : Tp K G (.ref a) (trI ns) := .tup (tupInK_sq h G) tpa_ints
theorem se_listW {dW : Addr} {tab : List (List Int × Str)} : SE K f W (tCB (rListW K dW tab) (tCons (tC (.ref dW)) tNil)) (eListW tab) := fun n tmp e G H σ Q X s xw w => by
  refine ⟨rfl, fun p bs hp pr => w _ G _ (Ex.refl G) (s.ownNew hp ?_)⟩
  clear w hp
  induction pr with
  | nil => exact .nil
  | cons a _ ih => exact .cons (tpW a G) ih
/-- a tuple of the module -/
theorem se_kt {a : Addr} {ns : List Int} (h : tupInK K a ns = true) : SE K f W (tC (.ref a)) (eT (trI ns)) := se_t fun G => tpW h G
/-! ### sorted(set(xs)), xs of tuples of ints -/
def nubL : List (List Int) → List (List Int)
  | [] => []
  | x :: r => if x ∈ r then nubL r else x :: nubL r
theorem nubL_mem : ∀ {l : List (List Int)} {a : List Int}, a ∈ nubL l ↔ a ∈ l
  | [], a => Iff.rfl
  | x :: r, a => by
    unfold nubL
    split
    · rename_i h
      rw [nubL_mem, List.mem_cons]
      exact ⟨.inr, fun q => q.elim (fun z => z ▸ h) id⟩
    · rw [List.mem_cons, List.mem_cons, nubL_mem]
theorem nubL_nodup : ∀ l : List (List Int), (nubL l).Nodup
  | [] => .nil
  | x :: r => by
    unfold nubL
    split
    · exact nubL_nodup r
    · rename_i h
      exact List.nodup_cons.mpr ⟨fun m => h (nubL_mem.mp m), nubL_nodup r⟩
def eSortSet (a : Env → M (Env × Dv)) : Env → M (Env × Dv) := fun e => (a e).bind fun p => match seqv p.1 p.2 with
  | some (false, ts) => match tupsT ts with
    | some ls => if (okSort ls && !ls.isEmpty) = true then .ret (p.1, .fr ((sortL (nubL ls)).map trI)) else .bad
    | none => .bad
  | _ => .bad
theorem se_sortSet {P : Program} {wd : World} {te : TE} {a : Env → M (Env × Dv)} (h : SE K f W te a) : SE K f W (tCB (rSortedT K P wd) (tCons (tCB (rSetOfT K P wd) (tCons te tNil)) tNil)) (eSortSet a) := fun n tmp e G H σ Q X s xw w => by
  refine h n tmp e G H σ _ X s xw (wp_imp (wpb w) fun n1 p w1 v G1 H1 x1 sv => ?_)
  have sm := svs_sem sv
  split at w1
  · rename_i ts q
    obtain ⟨a, xs, rfl, sq, al⟩ := svs_seq sv q
    split at w1
    · rename_i ls q2
      split at w1
      · rename_i ok
        obtain ⟨ok1, ok2⟩ := Bool.and_eq_true_iff.mp ok
        have hne : ls ≠ [] := by
          intro z
          rw [z] at ok2
          cases ok2
        have ht := tupsT_eq q2
        subst ht
        obtain ⟨d, hd, h64, hb⟩ := okSort_ok ok1 hne
        -- the tuples' own places
        have pl : ∃ ks : List (Addr × List Int), ks.map (·.2) = ls ∧ xs = ks.map (fun p => V.ref p.1) ∧ ∀ p ∈ ks, Tp K G1 (.ref p.1) (trI p.2) := by
          clear w1 q q2 ok ok1 ok2 hne h64 hb sq
          induction ls generalizing xs with
          | nil => cases al; exact ⟨[], rfl, rfl, fun p m => by cases m⟩
          | cons l ls ih =>
            cases al with
            | cons a b =>
              obtain ⟨ks, k1, k2, k3⟩ := ih _ b
              obtain ⟨t, e1, _⟩ := tupI_of a
              subst e1
              exact ⟨(t, l) :: ks, by simp [k1], by simp [k2], fun p m => by
                rcases List.mem_cons.mp m with rfl | m
                · exact a
                · exact k3 p m⟩
        obtain ⟨ks, k1, rfl, k3⟩ := pl
        have hkl : ks.length = ls.length := by rw [← k1, List.length_map]
        have sqk : ∀ {Hx : Hp}, Ex G1 Hx → ∀ p ∈ ks, SqT K Hx p.1 (p.2.map V.int) := fun {Hx} ex p m => by
          obtain ⟨t, e1, e2⟩ := tupI_of ((k3 p m).mono ex)
          cases e1
          exact e2
        refine ⟨a, ks, rfl, sq_of sq, sqk sm.ex, by rw [hkl]; exact h64, fun b L hbn hL1 hL2 => ?_⟩
        have sb := sm.allocH (ob := SetTO P wd b L) hbn
        refine ⟨b, L, d, bound ls, rfl, upd_same, fun p m => sqk sb.ex p (hL1 p m), hd, fun p m => hb _ (by rw [← k1]; exact List.mem_map_of_mem (hL1 p m)), fun L' p hp hnd h64' hsr hpn => ?_⟩
        have al' : TpAll K G1 (L'.map fun q => V.ref q.1) ((L'.map (·.2)).map trI) := by
          have : ∀ p ∈ L', Tp K G1 (.ref p.1) (trI p.2) := fun p m => k3 p (hL1 p (hp.mem_iff.mp m))
          clear hp hnd h64' hsr
          induction L' with
          | nil => exact .nil
          | cons y L' ih => exact .cons (this y (List.mem_cons_self ..)) (ih fun p m => this p (List.mem_cons_of_mem _ m))
        have e1 : L'.map (·.2) = sortL (nubL ls) := by
          refine sorted_code (d := d) (B := bound ls) ?_ (List.pairwise_map.mpr hsr) fun a m => hb a (nubL_mem.mp m)
          refine (List.perm_ext_iff_of_nodup hnd (nubL_nodup ls)).mpr fun a => ?_
          rw [nubL_mem]
          constructor
          · intro m
            obtain ⟨p, mp, rfl⟩ := List.mem_map.mp m
            rw [← k1]
            exact List.mem_map_of_mem (hL1 p (hp.mem_iff.mp mp))
          · intro m
            rw [← k1] at m
            obtain ⟨p, mp, rfl⟩ := List.mem_map.mp m
            have := hL2 p mp
            exact ((hp.map (·.2)).mem_iff).mpr this
        rw [← e1] at w1
        exact w1 _ G1 _ x1 (sb.ownNew hpn al')
      · exact w1.elim
    · exact w1.elim
  · exact w1.elim
end
end Ev

namespace Ev
open PySem L2 Evl Dl
section
variable {X : Cx} {CX : CXT} {k : Nat} {f : Addr} {fd : FuncData} {ps : List Str} {sp : Sp} {E : St → XK} {x : Str} {p pos : Pos} {tg e : Expr} {te : TE}
theorem pi_any (h : PE X e te) : PI X tg e (iAny X.K te) := by
  refine ⟨fun pins s σ H R I hw => ?_⟩
  refine thn (h.run pins s σ H _ I hw) fun v s1 ⟨y, H1, I1, r1, q1⟩ => ?_
  rcases q1 with ⟨a, rfl, ⟨xs, hq⟩, q⟩ | ⟨a, rfl, ⟨xs, hq⟩, q⟩ | ⟨z, rfl, q⟩
  · cases r1
    obtain ⟨its, rv, pl, hz⟩ := I1.list hq
    exact wpAny_pyIter_list pl.isList (pi_one (tk := s1.toks) I1 _ (turn_list a _) ⟨_, Heap.get?_push_size _ rfl, rfl, rfl⟩ q)
  · cases r1
    obtain ⟨its, rv, pl, hz⟩ := I1.tuple hq
    exact wpAny_pyIter_tuple (show s1.heap.IsTuple a its.toArray from pl) (pi_one (tk := s1.toks) I1 _ (turn_tuple a _) ⟨_, Heap.get?_push_size _ rfl, rfl, rfl⟩ q)
  · obtain ⟨t, rfl⟩ := r1
    cases ha : z.cps.all (· < 128)
    · exact wpAny_pyIter_wide ha (pi_one (tk := s1.toks) I1 _ (turn_str _ z t "str_iterator" (.inr rfl)) ⟨_, Heap.get?_push_size _ rfl, rfl, rfl⟩ q)
    · exact wpAny_pyIter_ascii ha (pi_one (tk := s1.toks) I1 _ (turn_str _ z t "str_ascii_iterator" (.inl rfl)) ⟨_, Heap.get?_push_size _ rfl, rfl, rfl⟩ q)
theorem pe_call0S (F : FnOk X.prog X.w X.K X.mg X.base CX k f fd ps sp) (hr : Room k X.A) (hg : Gl X x) (hm : X.mg x = some (.ref f)) (hk : PySem.W.keepIn X.K (.ref f) = true) (hb : Binds X.K fd ps []) (hx : ∀ σ, PassesAt CX X σ (E σ))
    (hdb : (x == ("__debug__" : Str)) = false := by decide) : PE X (.Call (.Name x p) [] [] pos) (tCallS sp E tNil) :=
  ⟨fun pins s σ H Q I h => wpAny_Call_Name_kw (ld_glob I hg hm (PySem.W.callWith_K0 I.kIn hk (run_fnS (us := []) (vs := []) F hr hb (hx σ) I .nil h)) hdb)⟩
end
section
variable {K : PySem.W.Frag} {f : Fx} {W : WX}
/-- a tuple's place in the module's table -/
def eInW (tab : List (List Int × Str)) (a : Env → M (Env × Dv)) : Env → M (Env × Dv) := fun e => (a e).bind fun p => oInW tab p.1 [p.2, .vv .non]
theorem se_inW' {dW : Addr} {tab : List (List Int × Str)} {ta : TE} {a : Env → M (Env × Dv)} (ha : SE K f W ta a) : SE K f W (tOp (rInW K dW tab) ta (tC (.ref dW))) (eInW tab a) := fun n tmp e G H σ Q X s xw w => by
  refine ha n tmp e G H σ _ X s xw (wp_imp (wpb w) fun n1 p w1 v G1 H1 x1 sv => ?_)
  have sm := svs_sem sv
  unfold oInW at w1
  simp only at w1
  split at w1
  · rename_i us q
    have tz := svs_view sv q
    split at w1
    · rename_i ns q2
      rw [intsT_eq q2] at tz
      obtain ⟨ad, rfl, sq⟩ := tupI_of tz
      exact ⟨ad, ns, rfl, rfl, sq, w1 _ G1 H1 x1 (sv_t sm (.bl _))⟩
    · exact w1.elim
  · exact w1.elim
def eGetW (tab : List (List Int × Str)) (a : Env → M (Env × Dv)) : Env → M (Env × Dv) := fun e => (a e).bind fun p => oGetW tab p.1 [.vv .non, p.2]
theorem se_getW' {dW : Addr} {tab : List (List Int × Str)} {ta : TE} {a : Env → M (Env × Dv)} (ha : SE K f W ta a) : SE K f W (tOp (rGetW K dW tab) (tC (.ref dW)) ta) (eGetW tab a) := fun n tmp e G H σ Q X s xw w => by
  refine ha n tmp e G H σ _ X s xw (wp_imp (wpb w) fun n1 p w1 v G1 H1 x1 sv => ?_)
  have sm := svs_sem sv
  unfold oGetW at w1
  simp only at w1
  split at w1
  · rename_i us q
    have tz := svs_view sv q
    split at w1
    · rename_i ns q2
      rw [intsT_eq q2] at tz
      obtain ⟨ad, rfl, sq⟩ := tupI_of tz
      split at w1
      · rename_i z q3
        exact ⟨ad, ns, z, rfl, rfl, sq, q3, w1 _ G1 H1 x1 (sv_t sm (.str _))⟩
      · exact w1.elim
    · exact w1.elim
  · exact w1.elim
/-! ### the law's own start -/
theorem run_lawE {N : List Str} {a : Addr} {ns : List Int} {H : Hp} {Q : VK} {E : XK} {k : Nat} {t : TS} {body : Env → M Out} (hS : SqL K H a (ns.map V.int)) (hT : TF H) (hl : ns.length ≤ 63) (hN : N.length = k + 2)
    (hb : ∀ f, SS K f wNo t body) (hw : wp (body (.no :: .pu :: List.replicate k .no)) (2 ^ 60) (fun _ o => o = .rt (.t (.bl true))) (fun _ _ _ => False)) (hQ : ∀ H', Q (.bl true) H') :
    (tSeq (tAsg (tCall (spPurse K) [] E (tCons (tVar 0) tNil)) (gName 1)) t) { nx := fun _ H' => Q .non H', rt := Q } (start N [.ref a]) H := by
  unfold L2.start
  rw [hN]
  refine ⟨.ref a, rfl, a, ns, rfl, hS, hl, fun p c H1 hp hc hne e1 pu => ?_⟩
  have j1 : J K ⟨some (p, c), H1, H⟩ ⟨2 ^ 60, []⟩ H H1 := ⟨e1, (fun D es m => by cases m), List.nodup_nil, (fun p' c' z => by
      cases z
      obtain ⟨cs, t, x, y, _⟩ := pu.ex
      exact ⟨hp, hc, (by show H1 p ≠ none; rw [x]; simp), (by show H1 c ≠ none; rw [y]; simp), pu⟩), fun b o _ z => z, Ex.refl H, fun b h1 h2 => absurd h2 h1, hT⟩
  refine hb ⟨some (p, c), H1, H⟩ (2 ^ 60) (.no :: .pu :: List.replicate k .no) H H1 _ _ (fun _ _ _ => False) ⟨[], ?_, j1⟩ (fun _ _ _ _ _ _ _ _ _ z _ => z) (wp_imp hw fun n o ho => ?_)
  · show RE K _ H (some (.ref a) :: some (.ref p) :: List.replicate k none) (.no :: .pu :: List.replicate k .no) []
    refine .no (.pu (c := c) rfl ?_)
    clear hN hb hw
    induction k with
    | zero => exact .nil
    | succ k ih => exact .no ih
  · subst ho
    intro v G' H' x rv
    obtain ⟨_, tp⟩ := rv
    cases tp
    exact hQ H'
end
end Ev

namespace Ev
open PySem L2 Evl Dl
/-! ### names for the generator -/
abbrev oSub := o2 (gI (fun _ _ => true) (· - ·))
abbrev oMod := o2 (gI cMod (· % ·))
abbrev oDiv := o2 (gI cDiv (· / ·))
abbrev oPow := o2 (gI cPow (fun i j => i ^ j.toNat))
abbrev rSub : R2 := rI0 fun i j => .int (i - j)
abbrev rMod : R2 := rI (fun _ j => 0 < j) fun i j => .int (i % j)
abbrev rDiv : R2 := rI CDivW fun i j => .int (i / j)
abbrev rPow : R2 := rI CPowX fun i j => .int (i ^ j.toNat)
abbrev rLtI : R2 := rI0 fun i j => .bl (decide (i < j))
abbrev rLeI : R2 := rI0 fun i j => .bl (decide (i ≤ j))
abbrev rGtI : R2 := rI0 fun i j => .bl (decide (j < i))
abbrev rGeI : R2 := rI0 fun i j => .bl (decide (j ≤ i))
abbrev rNegI : V → Hp → VK → Prop := rU fun i => .int (-i)
def rAbs : List V → Hp → VK → Prop := fun xs H Q => ∃ i, xs = [.int i] ∧ Q (.int (if i < 0 then -i else i)) H
def rInt1 : List V → Hp → VK → Prop := fun xs H Q => (∃ i, xs = [.int i] ∧ Q (.int i) H) ∨ ∃ k, xs = [.bl k] ∧ Q (.int (if k then 1 else 0)) H
def rMin2 : List V → Hp → VK → Prop := fun xs H Q => ∃ i j, xs = [.int i, .int j] ∧ Q (.int (if j < i then j else i)) H
def rMax2' : List V → Hp → VK → Prop := fun xs H Q => ∃ i j, xs = [.int i, .int j] ∧ Q (.int (if j > i then j else i)) H
def rListO (K : PySem.W.Frag) : List V → Hp → VK → Prop := fun xs H Q => ∃ p ys, xs = [.ref p] ∧ (SqL K H p ys ∨ SqT K H p ys) ∧ ∀ l, H l = none → Q (.ref l) (upd H l (.lst ys))
def kx0 : Addr → V → Option Bool := fun _ _ => none
section
variable {X : Cx} {K : PySem.W.Frag} {f : Fx} {W : WX} {G G' H H' : Hp} {n : Nat} {σ : St} {e : Env} {o r tm tmp : List (Addr × List En)} {ds : List Dv} {vs : List V}
theorem cr_absN : CallR X (.builtin "abs") rAbs := call_abs
theorem cr_intN : CallR X (.type "int") rInt1 := call_int1
theorem cr_min2N (hc : X.calm = true) : CallR X (.builtin "min") rMin2 := call_min2 hc
theorem cr_max2N (hc : X.calm = true) : CallR X (.builtin "max") rMax2' := call_max2 hc
theorem cr_listN : CallR X (.type "list") (rListO X.K) := call_list_of
theorem mt_insertN : MtR X "list.insert" rInsert := mt_insert
theorem os_absN : OS K f W (fun _ => rAbs) (o1 gAbs) := os_abs
theorem os_intN : OS K f W (fun _ => rInt1) (o1 gInt) := os_int
theorem os_min2N : OS K f W (fun _ => rMin2) (o2 gMin2) := os_min2
theorem os_max2N : OS K f W (fun _ => rMax2') (o2 gMax2) := os_max2
theorem os_listN : OS K f W (fun _ => rListO K) oList := os_list
theorem kx0_ok : KX K kx0 := fun C v b h => by cases h
theorem os_lt : OS K f W (R2S rLtI) (o2 gLt) := os_C
theorem os_le : OS K f W (R2S rLeI) (o2 gLe) := os_C
theorem os_gt : OS K f W (R2S rGtI) (o2 gGt) := os_C
theorem os_ge : OS K f W (R2S rGeI) (o2 gGe) := os_C
/-! ### [..][i]: what is picked stays new -/
def ePick (a : Env → M (Env × List Dv)) (b : Env → M (Env × Dv)) : Env → M (Env × Dv) := fun e => (a e).bind fun p => if p.2.length ≤ 1000 then (b p.1).bind fun q => match q.2 with
    | .t (.int k) => match atI p.2 k with
      | some d => .ret (q.1, d)
      | none => .bad
    | _ => .bad
  else .bad
theorem DsOk.pick {ds : List Dv} {vs : List V} {tm : List (Addr × List En)} (h : DsOk K f G σ ds vs tm) : ∀ {i : Nat} {d : Dv}, ds[i]? = some d → ∃ v t1, vs[i]? = some v ∧ DsOk K f G σ [d] [v] t1 ∧ t1.Sublist tm := by
  induction h with
  | nil => intro i d q; simp at q
  | t a _ ih =>
    intro i d q
    cases i with
    | zero =>
      simp only [List.getElem?_cons_zero, Option.some.injEq] at q
      subst q
      exact ⟨_, [], rfl, .t a .nil, List.nil_sublist _⟩
    | succ i => simpa using ih (by simpa using q)
  | fr _ ih =>
    intro i d q
    cases i with
    | zero =>
      simp only [List.getElem?_cons_zero, Option.some.injEq] at q
      subst q
      exact ⟨_, [_], rfl, .fr .nil, by simp⟩
    | succ i =>
      obtain ⟨v, t1, a, b, c⟩ := ih (i := i) (by simpa using q)
      exact ⟨v, t1, by simpa using a, b, c.trans (List.sublist_cons_self _ _)⟩
  | sl a _ ih =>
    intro i d q
    cases i with
    | zero =>
      simp only [List.getElem?_cons_zero, Option.some.injEq] at q
      subst q
      exact ⟨_, [], rfl, .sl a .nil, List.nil_sublist _⟩
    | succ i => simpa using ih (by simpa using q)
  | vv _ ih =>
    intro i d q
    cases i with
    | zero =>
      simp only [List.getElem?_cons_zero, Option.some.injEq] at q
      subst q
      exact ⟨_, [], rfl, .vv .nil, List.nil_sublist _⟩
    | succ i => simpa using ih (by simpa using q)
  | pu a _ ih =>
    intro i d q
    cases i with
    | zero =>
      simp only [List.getElem?_cons_zero, Option.some.injEq] at q
      subst q
      exact ⟨_, [], rfl, .pu a .nil, List.nil_sublist _⟩
    | succ i => simpa using ih (by simpa using q)
theorem vs_vals (G : Hp) : ∀ vs : List V, Vs K G vs (vs.map En.val)
  | [] => .nil
  | v :: vs => .cons rfl (vs_vals G vs)
theorem vals_vs : ∀ {xs vs : List V}, Vs K G xs (vs.map En.val) → xs = vs
  | [], [], _ => rfl
  | _ :: _, [], h => by cases h
  | [], _ :: _, h => by cases h
  | x :: xs, v :: vs, h => by
    cases h with
    | cons a b => rw [show x = v from a, vals_vs b]
theorem se_pick {ta : TA} {tb : TE} {a : Env → M (Env × List Dv)} {b : Env → M (Env × Dv)} (ha : SA K f W ta a) (hb : SE K f W tb b) : SE K f W (tOp (rIx K) (tLst ta) tb) (ePick a b) := fun n tmp e G H σ Q X s xw w => by
  refine ha n tmp e G H σ _ X s xw (wp_imp (wpb w) fun n1 p w1 vs G1 H1 x1 svs => ?_)
  obtain ⟨tm, dk, o, re, j⟩ := svs
  split at w1
  · rename_i hl
    refine ⟨sz_of (by rw [← dk.len]; exact Nat.le_trans hl (by decide)), fun q hq => ?_⟩
    have s2 : Sem K f n1 ((q, vs.map En.val) :: (tm ++ tmp)) p.1 G1 (upd H1 q (.lst vs)) σ := ⟨o, re, j.ownNew hq (vs_vals G1 vs)⟩
    refine hb n1 _ p.1 G1 _ σ _ X s2 xw (wp_imp (wpb w1) fun n2 p2 w2 u G2 H2 x2 sv2 => ?_)
    obtain ⟨e2, d2⟩ := p2
    dsimp only at w2 sv2
    split at w2
    · rename_i k
      obtain ⟨tk, s3⟩ := sv_t_iff.mp sv2
      cases tk
      obtain ⟨o3, re3, j3⟩ := s3
      split at w2
      · rename_i d q4
        obtain ⟨_, _, _, xs, hx, vx⟩ := j3.own q _ (List.mem_append_left _ (List.mem_cons_self ..))
        have ex := vals_vs vx
        subst ex
        unfold atI at q4
        cases q5 : ixN p.2.length k with
        | none => rw [q5] at q4; cases q4
        | some i =>
          rw [q5] at q4
          obtain ⟨v, t1, h1, h2, h3⟩ := (dk.mono x2).pick (show p.2[i]? = some d from q4)
          refine .inl ⟨q, xs, k, v, rfl, rfl, sq_of hx, ?_, w2 v G2 H2 (x1.trans x2) ⟨t1, h2, o3, re3, jsub j3 ?_⟩⟩
          · unfold atI
            rw [← dk.len, q5]
            exact h1
          · refine List.Sublist.append_right ?_ o3
            exact (List.Sublist.append_right h3 tmp).trans (List.sublist_cons_self _ _)
      · exact w2.elim
    · exact w2.elim
  · exact w1.elim
/-- a, b = c, d -/
def sPar (i j : Nat) (a : Env → M (Env × List Dv)) : Env → M Out := fun e => (a e).bind fun p => match slotsOf p.1 p.2 with
  | some (e2, [.t x, .t y]) => .ret (.nx ((e2.set i (.t x)).set j (.t y)))
  | _ => .bad
theorem ss_par {i j : Nat} {ta : TA} {a : Env → M (Env × List Dv)} (ha : SA K f W ta a) : SS K f W (tPar i j ta) (sPar i j a) := fun n e G H σ D X s xw w => by
  refine ha n [] e G H σ _ X s xw (wp_imp (wpb w) fun n1 p w1 vs G1 H1 x1 svs => ?_)
  cases q : slotsOf p.1 p.2 with
  | none => simp only [q] at w1; exact w1.elim
  | some z =>
    obtain ⟨e2, ss⟩ := z
    obtain ⟨G2, x2, s2, ak⟩ := slots_ok svs q
    simp only [q] at w1
    split at w1
    · rename_i e2' x y zz
      obtain ⟨rfl, rfl⟩ := Prod.mk.inj (Option.some.inj zz)
      cases ak with
      | t a ak =>
        cases ak with
        | t b ak =>
          cases ak
          exact ⟨_, _, rfl, w1 _ G2 H1 (x1.trans x2) ((s2.putT (i := i) a).putT (i := j) b)⟩
    · exact w1.elim
end
end Ev

namespace Ev
open PySem L2 Evl Dl
/-! ### running the evaluator, step by step -/
abbrev XP := Nat → Env → Addr → Prop
section
variable {a b : Env → M Out} {t : Env → M (Env × Bool)} {m : Env → M (Env × Dv)} {ar : Env → M (Env × List Dv)} {e e' e1 e2 : Env} {n i j k : Nat} {P : Nat → Out → Prop} {X : XP} {F : List Slot → M Rv} {ds : List Dv} {ss : List Slot} {x : Tr} {ts : List Tr} {d : Dv}
theorem seqE (h : a e = .ret (.nx e')) : sSeq a b e = b e' := by unfold sSeq; rw [h]; rfl
theorem seqR {r : Rv} (h : a e = .ret (.rt r)) : sSeq a b e = .ret (.rt r) := by unfold sSeq; rw [h]; rfl
theorem ifT (h : t e = .ret (e', true)) : sIf t a b e = a e' := by unfold sIf; rw [h]; rfl
theorem ifF (h : t e = .ret (e', false)) : sIf t a b e = b e' := by unfold sIf; rw [h]; rfl
theorem setE (h : m e = .ret (e1, d)) (h2 : storeD e1 i d = some e') : sSet i m e = .ret (.nx e') := by
  unfold sSet
  rw [h]
  show (match storeD e1 i d with | some e' => M.ret (Out.nx e') | none => .bad) = _
  rw [h2]
theorem retE (h : m e = .ret (e1, .t x)) : sRet m e = .ret (.rt (.t x)) := by unfold sRet; rw [h]; rfl
theorem retF (h : m e = .ret (e1, .fr ts)) : sRet m e = .ret (.rt (.fr ts)) := by unfold sRet; rw [h]; rfl
theorem dropE (h : m e = .ret (e1, d)) : sDrop m e = .ret (.nx e1) := by unfold sDrop; rw [h]; rfl
theorem valE {c : Bool} (h : m e = .ret (e1, .t (.bl c))) : tVal m e = .ret (e1, c) := by unfold tVal; rw [h]; rfl
theorem notE {c : Bool} (h : t e = .ret (e1, c)) : tNotM t e = .ret (e1, !c) := by unfold tNotM; rw [h]; rfl
theorem orF {u : Env → M (Env × Bool)} (h : t e = .ret (e1, false)) : tOrM t u e = u e1 := by unfold tOrM; rw [h]; rfl
theorem orT {u : Env → M (Env × Bool)} (h : t e = .ret (e1, true)) : tOrM t u e = .ret (e1, true) := by unfold tOrM; rw [h]; rfl
theorem andT {u : Env → M (Env × Bool)} (h : t e = .ret (e1, true)) : tAndM t u e = u e1 := by unfold tAndM; rw [h]; rfl
theorem andF {u : Env → M (Env × Bool)} (h : t e = .ret (e1, false)) : tAndM t u e = .ret (e1, false) := by unfold tAndM; rw [h]; rfl
theorem fnR {N : Nat} {body : Env → M Out} {r : Rv} (h : body (ss ++ List.replicate (N - ss.length) .no) = .ret (.rt r)) : fnOf N body ss = .ret r := by unfold fnOf; rw [h]; rfl
theorem fnN {N : Nat} {body : Env → M Out} (h : body (ss ++ List.replicate (N - ss.length) .no) = .ret (.nx e')) : fnOf N body ss = .ret (.t .non) := by unfold fnOf; rw [h]; rfl
theorem iseqE {e3 : Env} (h : m e = .ret (e1, d)) (h2 : forceD e1 d = some (e3, .lst ts)) : iSeq m e = .ret (e3, ts.map .one) := by
  unfold iSeq
  rw [h]
  show (match forceD e1 d with | some (e2, .lst ts) => M.ret (e2, ts.map Item.one) | some (e2, .tup ts) => _ | some (e2, .str x) => _ | _ => M.bad) = _
  rw [h2]
theorem callS (h : ar e = .ret (e1, ds)) (h2 : slotsOf e1 ds = some (e2, ss)) (hk : ss.length = k) (hF : F ss = .ret (.t x)) (hs : scalT x = true) : evCall F k ar e = .ret (e1, .t x) := by
  unfold evCall
  rw [h]
  show (match slotsOf e1 ds with | none => M.bad | some (e2, ss) => if ss.length = k then (reRz e1 (F ss)).bind (retD e1 e2) else .bad) = _
  rw [h2]
  show (if ss.length = k then (reRz e1 (F ss)).bind (retD e1 e2) else .bad) = _
  rw [if_pos hk, hF]
  show M.ret (if scalT x = true then e1 else e2, Dv.t x) = _
  rw [if_pos hs]
theorem callT (h : ar e = .ret (e1, ds)) (h2 : slotsOf e1 ds = some (e2, ss)) (hk : ss.length = k) (hF : F ss = .ret (.t x)) (hs : scalT x = false) : evCall F k ar e = .ret (e2, .t x) := by
  unfold evCall
  rw [h]
  show (match slotsOf e1 ds with | none => M.bad | some (e2, ss) => if ss.length = k then (reRz e1 (F ss)).bind (retD e1 e2) else .bad) = _
  rw [h2]
  show (if ss.length = k then (reRz e1 (F ss)).bind (retD e1 e2) else .bad) = _
  rw [if_pos hk, hF]
  show M.ret (if scalT x = true then e1 else e2, Dv.t x) = _
  rw [if_neg (by rw [hs]; exact Bool.false_ne_true)]
theorem callF (h : ar e = .ret (e1, ds)) (h2 : slotsOf e1 ds = some (e2, ss)) (hk : ss.length = k) (hF : F ss = .ret (.fr ts)) : evCall F k ar e = .ret (e2, .fr ts) := by
  unfold evCall
  rw [h]
  show (match slotsOf e1 ds with | none => M.bad | some (e2, ss) => if ss.length = k then (reRz e1 (F ss)).bind (retD e1 e2) else .bad) = _
  rw [h2]
  show (if ss.length = k then (reRz e1 (F ss)).bind (retD e1 e2) else .bad) = _
  rw [if_pos hk, hF]
  rfl
/-- by keywords: as by place -/
theorem callK_eq {g : List Dv → List Dv → List Dv} {kr ar2 : Env → M (Env × List Dv)} {es : List Dv} (h : ar e = .ret (e1, ds)) (h2 : kr e1 = .ret (e2, es)) (h3 : ar2 e = .ret (e2, g ds es)) : evCallK F k g ar kr e = evCall F k ar2 e := by
  unfold evCallK evCall
  rw [h, h3]
  show ((kr e1).bind _) = _
  rw [h2]
  rfl
theorem callKS {g : List Dv → List Dv → List Dv} {kr : Env → M (Env × List Dv)} {es : List Dv} {e3 : Env} (h : ar e = .ret (e1, ds)) (h2 : kr e1 = .ret (e2, es)) (h3 : slotsOf e2 (g ds es) = some (e3, ss)) (hk : ss.length = k) (hF : F ss = .ret (.t x)) (hs : scalT x = true) : evCallK F k g ar kr e = .ret (e2, .t x) :=
  (callK_eq (ar2 := fun _ => .ret (e2, g ds es)) h h2 rfl).trans (callS rfl h3 hk hF hs)
theorem callKT {g : List Dv → List Dv → List Dv} {kr : Env → M (Env × List Dv)} {es : List Dv} {e3 : Env} (h : ar e = .ret (e1, ds)) (h2 : kr e1 = .ret (e2, es)) (h3 : slotsOf e2 (g ds es) = some (e3, ss)) (hk : ss.length = k) (hF : F ss = .ret (.t x)) (hs : scalT x = false) : evCallK F k g ar kr e = .ret (e3, .t x) :=
  (callK_eq (ar2 := fun _ => .ret (e2, g ds es)) h h2 rfl).trans (callT rfl h3 hk hF hs)
theorem callKF {g : List Dv → List Dv → List Dv} {kr : Env → M (Env × List Dv)} {es : List Dv} {e3 : Env} (h : ar e = .ret (e1, ds)) (h2 : kr e1 = .ret (e2, es)) (h3 : slotsOf e2 (g ds es) = some (e3, ss)) (hk : ss.length = k) (hF : F ss = .ret (.fr ts)) : evCallK F k g ar kr e = .ret (e3, .fr ts) :=
  (callK_eq (ar2 := fun _ => .ret (e2, g ds es)) h h2 rfl).trans (callF rfl h3 hk hF)
theorem argE {r : Env → M (Env × List Dv)} (h : m e = .ret (e1, d)) (h2 : r e1 = .ret (e2, ds)) : aCons m r e = .ret (e2, d :: ds) := by
  unfold aCons
  rw [h]
  show ((r e1).bind _) = _
  rw [h2]
  rfl
theorem opE {o : Env → List Dv → M (Env × Dv)} (h : ar e = .ret (e1, ds)) : evO o ar e = o e1 ds := by
  unfold evO
  rw [h]
  rfl
theorem wp_eq {α : Type} {m1 m2 : M α} {P : Nat → α → Prop} (h : m1 = m2) (w : wp m2 n P X) : wp m1 n P X := h ▸ w
theorem wp_seq (h : wp (a e) n (fun n' o => match o with | .nx e' => wp (b e') n' P X | o => P n' o) X) : wp (sSeq a b e) n P X := by
  unfold sSeq
  rw [wp_bind]
  refine wp_imp h fun n' o w => ?_
  cases o with
  | nx e' => exact w
  | rt r => exact w
  | bk e' => exact w
  | ct e' => exact w
theorem wp_set {Pm : Nat → Env × Dv → Prop} (h : wp (m e) n Pm X) (k : ∀ n' r, Pm n' r → ∃ e', storeD r.1 i r.2 = some e' ∧ P n' (.nx e')) : wp (sSet i m e) n P X := by
  unfold sSet
  rw [wp_bind]
  refine wp_imp h fun n' r w => ?_
  obtain ⟨e', h1, h2⟩ := k n' r w
  rw [h1]
  exact h2
/-- a draw -/
theorem wp_draw {Pm : Nat → Env × Dv → Prop} {mm : Int} (h : ar e = .ret (e1, [.pu, .t (.int mm)])) (h1 : 1 ≤ mm) (h2 : mm ≤ 2 ^ 64) (hn : 1 ≤ n) (k : ∀ r, 0 ≤ r → r < mm → Pm (n - 1) (e1, .t (.int r))) : wp (eDraw ar e) n Pm X := by
  unfold eDraw
  rw [h]
  refine ⟨hn, h1, Int.le_trans h2 ?_, k⟩
  have : (2 : Int) ^ 64 ≤ 2 ^ 4000 := by decide +kernel
  exact this
/-- a pick of a written list by a draw -/
theorem wp_pick {Pm : Nat → Env × Dv → Prop} {br : Env → M (Env × List Dv)} {mm : Nat} (h : ar e = .ret (e1, ds)) (hb : br e1 = .ret (e1, [.pu, .t (.int (mm : Int))])) (hl : ds.length = mm) (h1 : 1 ≤ mm) (h2 : mm ≤ 1000) (hn : 1 ≤ n) (k : ∀ d, d ∈ ds → Pm (n - 1) (e1, d)) : wp (ePick ar (eDraw br) e) n Pm X := by
  unfold ePick
  rw [h]
  show wp (if ds.length ≤ 1000 then _ else _) n Pm X
  rw [if_pos (by omega), wp_bind]
  refine wp_draw (mm := (mm : Int)) hb (by omega) (by have : (1000 : Int) ≤ 2 ^ 64 := by decide +kernel
                                                      omega) hn fun r r0 r1 => ?_
  have hr : r.toNat < ds.length := by omega
  have e0 : atI ds r = some ds[r.toNat] := by
    have := atI_nat (xs := ds) (j := r.toNat) (v := ds[r.toNat]) (List.getElem?_eq_getElem hr)
    rw [Int.toNat_of_nonneg r0] at this
    exact this
  show wp (match atI ds r with | some d => M.ret (e1, d) | none => .bad) _ _ _
  rw [e0]
  exact k _ (List.getElem_mem hr)
theorem le64 {x : Int} (h : x ≤ 1000) : x ≤ 2 ^ 64 := Int.le_trans h (by decide +kernel)
theorem wp_arg {r : Env → M (Env × List Dv)} {Pm : Nat → Env × List Dv → Prop} (h : wp (m e) n (fun n' p => wp (r p.1) n' (fun n2 q => Pm n2 (q.1, p.2 :: q.2)) X) X) : wp (aCons m r e) n Pm X := by
  unfold aCons
  rw [wp_bind]
  refine wp_imp h fun n' p w => ?_
  rw [wp_bind]
  exact w
theorem wp_op {o : Env → List Dv → M (Env × Dv)} {Pm : Nat → Env × Dv → Prop} (h : wp (ar e) n (fun n' p => wp (o p.1 p.2) n' Pm X) X) : wp (evO o ar e) n Pm X := by
  unfold evO
  rw [wp_bind]
  exact h
theorem wp_drop (h : wp (m e) n (fun n' r => P n' (.nx r.1)) X) : wp (sDrop m e) n P X := by
  unfold sDrop
  rw [wp_bind]
  exact h
theorem wp_LM {g : List Tr → List Tr → Option (List Tr × Tr)} {l0 : List Tr} {Pm : Nat → Env × Dv → Prop} (h0 : e[i]? = some (.live l0)) (h : wp (ar e) n (fun n' p => ∃ e2 ss ys ts ts' z, slotsOf p.1 p.2 = some (e2, ss) ∧ trsOf ss = some ys ∧ e2[i]? = some (.live ts) ∧ g ts ys = some (ts', z) ∧ Pm n' (e2.set i (.live ts'), .t z)) X) : wp (eLM g i ar e) n Pm X := by
  unfold eLM
  rw [h0]
  show wp ((ar e).bind _) n Pm X
  rw [wp_bind]
  refine wp_imp h fun n' p w => ?_
  obtain ⟨e2, ss, ys, ts, ts', z, h1, h2, h3, h4, h5⟩ := w
  simp only [h1, h2, h3, h4]
  exact h5
theorem lmE {g : List Tr → List Tr → Option (List Tr × Tr)} {l0 ys ts' : List Tr} {z : Tr} (h0 : e[i]? = some (.live l0)) (h : ar e = .ret (e1, ds)) (h1 : slotsOf e1 ds = some (e2, ss)) (h2 : trsOf ss = some ys) (h3 : e2[i]? = some (.live ts)) (h4 : g ts ys = some (ts', z)) : eLM g i ar e = .ret (e2.set i (.live ts'), .t z) := by
  unfold eLM
  rw [h0]
  show (ar e).bind _ = _
  rw [h]
  show (match slotsOf e1 ds with | some (e2, ss) => _ | none => M.bad) = _
  simp only [h1, h2, h3, h4]
/-- the value of a call that draws -/
theorem wp_call {Pm : Nat → Env × Dv → Prop} (h : ar e = .ret (e1, ds)) (h2 : slotsOf e1 ds = some (e2, ss)) (hk : ss.length = k) (hF : wp (F ss) n (fun n' r => wp (retD e1 e2 r) n' Pm X) (fun n' _ C => X n' e1 C)) : wp (evCall F k ar e) n Pm X := by
  unfold evCall
  rw [h]
  show wp (match slotsOf e1 ds with | none => M.bad | some (e2, ss) => if ss.length = k then (reRz e1 (F ss)).bind (retD e1 e2) else .bad) n Pm X
  rw [h2]
  show wp (if ss.length = k then (reRz e1 (F ss)).bind (retD e1 e2) else .bad) n Pm X
  rw [if_pos hk, wp_bind, wp_reRz]
  exact hF
/-- what raises nothing -/
theorem wp_noRz' {α : Type} {P : Nat → α → Prop} : ∀ {m : M α} {n : Nat}, wp m n P (fun _ _ _ => False) → wp (noRz m) n P X
  | .ret a, n, h => h
  | .draw m g, n, h => ⟨h.1, h.2.1, h.2.2.1, fun r h0 h1 => wp_noRz' (h.2.2.2 r h0 h1)⟩
  | .rz e C, n, h => h.elim
  | .bad, n, h => h
theorem wp_ret {α : Type} {x : α} {P : Nat → α → Prop} (h : P n x) : wp (.ret x) n P X := h
/-- a call that draws: what it gives -/
def RvP (e1 e2 : Env) (Pm : Nat → Env × Dv → Prop) (n : Nat) : Rv → Prop
  | .t x => Pm n (if scalT x = true then e1 else e2, .t x)
  | .fr ts => Pm n (e2, .fr ts)
theorem wp_callV {Pm : Nat → Env × Dv → Prop} (h : ar e = .ret (e1, ds)) (h2 : slotsOf e1 ds = some (e2, ss)) (hk : ss.length = k) (hF : wp (F ss) n (RvP e1 e2 Pm) (fun n' _ C => X n' e1 C)) : wp (evCall F k ar e) n Pm X := by
  refine wp_call h h2 hk (wp_imp hF fun n' r w => ?_)
  cases r with
  | t x => exact w
  | fr ts => exact w
/-! ### loops -/
theorem wp_forL {bd : Item → Env → Option Env} {body : Env → M Out} (Inv : Nat → Nat → Env → Prop) : ∀ {its : List Item} {k n : Nat} {e : Env}, Inv k n e →
    (∀ i it n' e', its[i]? = some it → Inv (k + i) n' e' → ∃ e2, bd it e' = some e2 ∧ wp (body e2) n' (fun n2 o => match o with | .nx e3 => Inv (k + i + 1) n2 e3 | .ct e3 => Inv (k + i + 1) n2 e3 | .bk e3 => P n2 (.nx e3) | .rt r => P n2 (.rt r)) X) →
    (∀ n' e', Inv (k + its.length) n' e' → P n' (.nx e')) → wp (forL bd body its e) n P X
  | [], k, n, e, h0, _, hd => hd n e h0
  | it :: its, k, n, e, h0, hs, hd => by
    obtain ⟨e2, h1, h2⟩ := hs 0 it n e rfl h0
    unfold forL
    rw [h1]
    show wp ((body e2).bind _) n P X
    rw [wp_bind]
    have next : ∀ n2 e3, Inv (k + 0 + 1) n2 e3 → wp (forL bd body its e3) n2 P X := fun n2 e3 hi =>
      wp_forL Inv (k := k + 1) hi (fun i it' n' e' hi' hv => by
        have := hs (i + 1) it' n' e' (by simpa using hi') (by rw [show k + (i + 1) = k + 1 + i by omega]; exact hv)
        rw [show k + (i + 1) + 1 = k + 1 + i + 1 by omega] at this
        exact this) (fun n' e' hv => hd n' e' (by rw [List.length_cons, show k + (its.length + 1) = k + 1 + its.length by omega]; exact hv))
    refine wp_imp h2 fun n2 o w => ?_
    cases o with
    | nx e3 => exact next n2 e3 w
    | ct e3 => exact next n2 e3 w
    | bk e3 => exact w
    | rt r => exact w
theorem rngI_get {m : Nat} {i : Nat} {it : Item} (h : (rngI 0 (m : Int))[i]? = some it) : i < m ∧ it = .one (.int (i : Int)) := by
  unfold rngI at h
  rw [List.getElem?_map, Int.sub_zero, Int.toNat_natCast] at h
  obtain ⟨c, h1, h2⟩ := Option.map_eq_some_iff.mp h
  have hlt : i < m := by simpa using (List.getElem?_eq_some_iff.mp h1).1
  rw [List.getElem?_range hlt] at h1
  cases h1
  exact ⟨hlt, by rw [← h2]; simp⟩
theorem rngI_len {m : Nat} : (rngI 0 (m : Int)).length = m := by
  unfold rngI
  rw [List.length_map, List.length_range, Int.sub_zero, Int.toNat_natCast]
/-- for j in range(m) -/
theorem wp_forR {m : Nat} {body : Env → M Out} (hm : m ≤ 1000000) (ha : ar e = .ret (e1, [.t (.int (m : Int))])) (Inv : Nat → Nat → Env → Prop) (h0 : Inv 0 n e1)
    (hs : ∀ k n' e', k < m → Inv k n' e' → wp (body (e'.set j (.t (.int (k : Int))))) n' (fun n2 o => match o with | .nx e3 => Inv (k + 1) n2 e3 | .ct e3 => Inv (k + 1) n2 e3 | .bk e3 => P n2 (.nx e3) | .rt r => P n2 (.rt r)) X)
    (hd : ∀ n' e', Inv m n' e' → P n' (.nx e')) : wp (sFor (iRange1 ar) (bName j) body e) n P X := by
  have hr : iRange1 ar e = .ret (e1, rngI 0 (m : Int)) := by
    have h1 : smallI (m : Int) = true := smallI_iff.mpr (by omega)
    unfold iRange1
    rw [ha]
    show (if smallI (m : Int) = true then M.ret (e1, rngI 0 (m : Int)) else M.bad) = _
    rw [if_pos h1]
  unfold sFor
  rw [hr]
  refine wp_forL Inv (its := rngI 0 (m : Int)) (k := 0) h0 (fun i it n' e' hi hv => ?_) (fun n' e' hv => hd n' e' (by rw [rngI_len, Nat.zero_add] at hv; exact hv))
  obtain ⟨h1, rfl⟩ := rngI_get hi
  rw [Nat.zero_add] at hv ⊢
  exact ⟨_, rfl, hs i n' e' h1 hv⟩
/-- for j in xs -/
theorem wp_forS {body : Env → M Out} (ha : iSeq m e = .ret (e1, ts.map .one)) (Inv : Nat → Nat → Env → Prop) (h0 : Inv 0 n e1)
    (hs : ∀ k x n' e', ts[k]? = some x → Inv k n' e' → wp (body (e'.set j (.t x))) n' (fun n2 o => match o with | .nx e3 => Inv (k + 1) n2 e3 | .ct e3 => Inv (k + 1) n2 e3 | .bk e3 => P n2 (.nx e3) | .rt r => P n2 (.rt r)) X)
    (hd : ∀ n' e', Inv ts.length n' e' → P n' (.nx e')) : wp (sFor (iSeq m) (bName j) body e) n P X := by
  unfold sFor
  rw [ha]
  refine wp_forL Inv (its := ts.map .one) (k := 0) h0 (fun i it n' e' hi hv => ?_) (fun n' e' hv => hd n' e' (by rw [List.length_map, Nat.zero_add] at hv; exact hv))
  rw [List.getElem?_map] at hi
  obtain ⟨x, h1, rfl⟩ := Option.map_eq_some_iff.mp hi
  rw [Nat.zero_add] at hv ⊢
  exact ⟨_, rfl, hs i x n' e' h1 hv⟩
/-! ### comprehensions -/
/-- elements that are told, one by one, with what they cost -/
theorem wp_lc {bd : Item → Env → Option Env} {t : Env → M (Env × Bool)} {el : Env → M (Env × Dv)} {vs : List Nat} {Pm : Nat → Env × Dv → Prop} {e : Env} {c : Nat} (Pe : Item → Tr → Prop) (hnl : noLive e vs = true) : ∀ {its : List Item} {acc : List Tr} {n : Nat}, acc.length + its.length ≤ 80000 → c * its.length ≤ n →
    (∀ it ∈ its, ∀ n', c ≤ n' → ∃ e2, bd it (wipeS e vs) = some e2 ∧ t e2 = .ret (e2, true) ∧ backS e e2 vs = e ∧ wp (noRz (el e2)) n' (fun n2 r => n' ≤ n2 + c ∧ r.1 = e2 ∧ ∃ x, r.2 = .t x ∧ Pe it x) X) →
    (∀ n' xs, n ≤ n' + c * its.length → Paired Pe its xs → Pm n' (e, .fr (acc ++ xs))) → wp (lcL bd t el vs its acc e) n Pm X
  | [], acc, n, _, _, _, k => by
    have := k n [] (by omega) .nil
    rw [List.append_nil] at this
    exact this
  | it :: its, acc, n, hl, hn, hs, k => by
    rw [List.length_cons] at hl hn
    have hc : c ≤ n := by
      rw [Nat.mul_succ] at hn
      omega
    obtain ⟨e2, h1, h2, h3, h4⟩ := hs it (List.mem_cons_self ..) n hc
    unfold lcL
    rw [if_pos ⟨hnl, by omega⟩, h1]
    show wp ((noRz (t e2)).bind _) n Pm X
    rw [h2]
    show wp ((noRz (el e2)).bind _) n Pm X
    rw [wp_bind]
    refine wp_imp h4 fun n2 r w => ?_
    obtain ⟨w1, w2, x, w3, w4⟩ := w
    obtain ⟨r1, r2⟩ := r
    dsimp only at w2 w3
    subst w2 w3
    show wp (lcL bd t el vs its (acc ++ [x]) (backS e r1 vs)) n2 Pm X
    rw [h3]
    refine wp_lc Pe hnl (by rw [List.length_append]; simp; omega) (by rw [Nat.mul_succ] at hn; omega) (fun it' m' => hs it' (List.mem_cons_of_mem _ m')) fun n' xs hn' hp => ?_
    have := k n' (x :: xs) (by rw [List.length_cons, Nat.mul_succ]; omega) (.cons w4 hp)
    rw [show acc ++ [x] ++ xs = acc ++ x :: xs by simp]
    exact this
/-- pure ones, with a test -/
theorem lc_pure {bd : Item → Env → Option Env} {t : Env → M (Env × Bool)} {el : Env → M (Env × Dv)} {vs : List Nat} {e : Env} (p : Item → Bool) (g : Item → Tr) (hnl : noLive e vs = true) : ∀ {its : List Item} {acc : List Tr}, acc.length + its.length ≤ 80000 →
    (∀ it ∈ its, ∃ e2, bd it (wipeS e vs) = some e2 ∧ t e2 = .ret (e2, p it) ∧ backS e e2 vs = e ∧ (p it = true → el e2 = .ret (e2, .t (g it)))) → lcL bd t el vs its acc e = .ret (e, .fr (acc ++ (its.filter p).map g))
  | [], acc, _, _ => by unfold lcL; simp
  | it :: its, acc, hl, hs => by
    rw [List.length_cons] at hl
    obtain ⟨e2, h1, h2, h3, h4⟩ := hs it (List.mem_cons_self ..)
    unfold lcL
    rw [if_pos ⟨hnl, by omega⟩, h1]
    show (noRz (t e2)).bind _ = _
    rw [h2]
    cases q : p it with
    | true =>
      show (noRz (el e2)).bind _ = _
      rw [h4 q]
      show lcL bd t el vs its (acc ++ [g it]) (backS e e2 vs) = _
      rw [h3, lc_pure p g hnl (by rw [List.length_append]; simp; omega) fun it' m' => hs it' (List.mem_cons_of_mem _ m')]
      simp [q]
    | false =>
      show lcL bd t el vs its acc (backS e e2 vs) = _
      rw [h3, lc_pure p g hnl (by omega) fun it' m' => hs it' (List.mem_cons_of_mem _ m')]
      simp [q]
theorem lcE {it : Env → M (Env × List Item)} {bd : Item → Env → Option Env} {el : Env → M (Env × Dv)} {vs : List Nat} {its : List Item} (h : it e = .ret (e1, its)) : eLc it bd t el vs e = lcL bd t el vs its [] e1 := by
  unfold eLc
  rw [h]
  rfl
end
theorem eqv_int (a b : Int) : PyData.eqv (.int a) (.int b) = decide (a = b) := by
  unfold PyData.eqv
  by_cases h : a = b <;> simp [h]
end Ev

namespace Ev
open PySem L2 Evl Dl
/-! ### the same, not to be opened by the elaborator -/
@[irreducible] def Wp {α : Type} (m : M α) (n : Nat) (P : Nat → α → Prop) (X : XP) : Prop := wp m n P X
theorem Wp_eq {α : Type} : @Wp α = @wp α := by
  funext m n P X
  unfold Wp
  rfl
theorem Wp.out {α : Type} {m : M α} {n : Nat} {P : Nat → α → Prop} {X : XP} (h : Wp m n P X) : wp m n P X := by rw [Wp_eq] at h; exact h
namespace W
section
variable {a b : Env → M Out} {t : Env → M (Env × Bool)} {m : Env → M (Env × Dv)} {ar : Env → M (Env × List Dv)} {e e' e1 e2 : Env} {n i j k : Nat} {P : Nat → Out → Prop} {X : XP} {F : List Slot → M Rv} {ds : List Dv} {ss : List Slot} {x : Tr} {ts : List Tr} {d : Dv}
theorem mk {α : Type} {m : M α} {P : Nat → α → Prop} (h : wp m n P X) : Wp m n P X := by rw [Wp_eq]; exact h
theorem out {α : Type} {m : M α} {P : Nat → α → Prop} (h : Wp m n P X) : wp m n P X := by rw [Wp_eq] at h; exact h
theorem imp {α : Type} {m : M α} {P R : Nat → α → Prop} (q : Wp m n P X) (h : ∀ n a, P n a → R n a) : Wp m n R X := mk (wp_imp q.out h)
theorem ret {α : Type} {x : α} {P : Nat → α → Prop} (h : P n x) : Wp (.ret x) n P X := mk h
theorem eq {α : Type} {m1 m2 : M α} {P : Nat → α → Prop} (h : m1 = m2) (w : Wp m2 n P X) : Wp m1 n P X := h ▸ w
theorem seq (h : Wp (a e) n (fun n' o => match o with | .nx e' => Wp (b e') n' P X | o => P n' o) X) : Wp (sSeq a b e) n P X := by
  rw [Wp_eq] at h ⊢
  exact wp_seq h
theorem set {Pm : Nat → Env × Dv → Prop} (h : Wp (m e) n Pm X) (k : ∀ n' r, Pm n' r → ∃ e', storeD r.1 i r.2 = some e' ∧ P n' (.nx e')) : Wp (sSet i m e) n P X := mk (wp_set h.out k)
theorem ite (c : Bool) (h : t e = .ret (e', c)) (hT : c = true → Wp (a e') n P X) (hF : c = false → Wp (b e') n P X) : Wp (sIf t a b e) n P X := by
  cases c with
  | true => exact eq (ifT h) (hT rfl)
  | false => exact eq (ifF h) (hF rfl)
theorem draw {Pm : Nat → Env × Dv → Prop} {mm : Int} (h : ar e = .ret (e1, [.pu, .t (.int mm)])) (h1 : 1 ≤ mm) (h2 : mm ≤ 1000) (hn : 1 ≤ n) (k : ∀ r, 0 ≤ r → r < mm → Pm (n - 1) (e1, .t (.int r))) : Wp (eDraw ar e) n Pm X := mk (wp_draw h h1 (le64 h2) hn k)
theorem pick {Pm : Nat → Env × Dv → Prop} {br : Env → M (Env × List Dv)} {mm : Nat} (h : ar e = .ret (e1, ds)) (hb : br e1 = .ret (e1, [.pu, .t (.int (mm : Int))])) (hl : ds.length = mm) (h1 : 1 ≤ mm) (h2 : mm ≤ 1000) (hn : 1 ≤ n) (k : ∀ d, d ∈ ds → Pm (n - 1) (e1, d)) : Wp (ePick ar (eDraw br) e) n Pm X := mk (wp_pick h hb hl h1 h2 hn k)
/-- xs[draw], xs at a name -/
theorem pickV {Pm : Nat → Env × Dv → Prop} {br : Env → M (Env × List Dv)} {mm : Nat} {bb : Bool} (hb : br e = .ret (e, [.pu, .t (.int (mm : Int))])) (hm : m e = .ret (e, d)) (hv : seqv e d = some (bb, ts)) (hl : ts.length = mm) (h1 : 1 ≤ mm) (h2 : mm ≤ 1000) (hn : 1 ≤ n) (k : ∀ x, x ∈ ts → Pm (n - 1) (e, .t x)) : Wp (evO oIx (aCons m (aCons (eDraw br) aNil)) e) n Pm X := by
  refine mk (wp_op (wp_arg ?_))
  rw [hm]
  refine wp_arg (wp_draw (mm := (mm : Int)) hb (by omega) (le64 (by omega)) hn fun r r0 r1 => ?_)
  have hr : r.toNat < ts.length := by omega
  have e0 : atI ts r = some ts[r.toNat] := by
    have := atI_nat (xs := ts) (j := r.toNat) (v := ts[r.toNat]) (List.getElem?_eq_getElem hr)
    rw [Int.toNat_of_nonneg r0] at this
    exact this
  show wp (oIx e [d, .t (.int r)]) (n - 1) Pm X
  unfold oIx
  simp only [view, hv, e0]
  exact k _ (List.getElem_mem hr)
theorem callV {Pm : Nat → Env × Dv → Prop} (h : ar e = .ret (e1, ds)) (h2 : slotsOf e1 ds = some (e2, ss)) (hk : ss.length = k) (hF : Wp (F ss) n (RvP e1 e2 Pm) (fun n' _ C => X n' e1 C)) : Wp (evCall F k ar e) n Pm X := mk (wp_callV h h2 hk hF.out)
theorem arg {r : Env → M (Env × List Dv)} {Pm : Nat → Env × List Dv → Prop} (h : Wp (m e) n (fun n' p => Wp (r p.1) n' (fun n2 q => Pm n2 (q.1, p.2 :: q.2)) X) X) : Wp (aCons m r e) n Pm X := by
  rw [Wp_eq] at h ⊢
  simp only [Wp_eq] at h
  exact wp_arg h
theorem op {o : Env → List Dv → M (Env × Dv)} {Pm : Nat → Env × Dv → Prop} (h : Wp (ar e) n (fun n' p => Wp (o p.1 p.2) n' Pm X) X) : Wp (evO o ar e) n Pm X := by
  rw [Wp_eq] at h ⊢
  simp only [Wp_eq] at h
  exact wp_op h
theorem drop (h : Wp (m e) n (fun n' r => P n' (.nx r.1)) X) : Wp (sDrop m e) n P X := mk (wp_drop h.out)
/-- a value, then a test of it -/
theorem val {Pm : Nat → Env × Bool → Prop} (h : Wp (m e) n (fun n' r => ∃ c, r.2 = .t (.bl c) ∧ Pm n' (r.1, c)) X) : Wp (tVal m e) n Pm X := by
  rw [Wp_eq] at h ⊢
  unfold tVal
  rw [wp_bind]
  refine wp_imp h fun n' r ⟨c, h1, h2⟩ => ?_
  rw [h1]
  exact h2
theorem ifW {Pm : Nat → Env × Bool → Prop} (h : Wp (t e) n Pm X) (hT : ∀ n' e', Pm n' (e', true) → Wp (a e') n' P X) (hF : ∀ n' e', Pm n' (e', false) → Wp (b e') n' P X) : Wp (sIf t a b e) n P X := by
  rw [Wp_eq] at h hT hF ⊢
  unfold sIf
  rw [wp_bind]
  refine wp_imp h fun n' r hr => ?_
  obtain ⟨e', c⟩ := r
  cases c with
  | true => exact hT n' e' hr
  | false => exact hF n' e' hr
theorem forR {m : Nat} {body : Env → M Out} (hm : m ≤ 1000000) (ha : ar e = .ret (e1, [.t (.int (m : Int))])) (Inv : Nat → Nat → Env → Prop) (h0 : Inv 0 n e1)
    (hs : ∀ k n' e', k < m → Inv k n' e' → Wp (body (e'.set j (.t (.int (k : Int))))) n' (fun n2 o => match o with | .nx e3 => Inv (k + 1) n2 e3 | .ct e3 => Inv (k + 1) n2 e3 | .bk e3 => P n2 (.nx e3) | .rt r => P n2 (.rt r)) X)
    (hd : ∀ n' e', Inv m n' e' → P n' (.nx e')) : Wp (sFor (iRange1 ar) (bName j) body e) n P X := by
  rw [Wp_eq] at hs ⊢
  exact wp_forR hm ha Inv h0 hs hd
theorem forS {body : Env → M Out} (ha : iSeq m e = .ret (e1, ts.map .one)) (Inv : Nat → Nat → Env → Prop) (h0 : Inv 0 n e1)
    (hs : ∀ k x n' e', ts[k]? = some x → Inv k n' e' → Wp (body (e'.set j (.t x))) n' (fun n2 o => match o with | .nx e3 => Inv (k + 1) n2 e3 | .ct e3 => Inv (k + 1) n2 e3 | .bk e3 => P n2 (.nx e3) | .rt r => P n2 (.rt r)) X)
    (hd : ∀ n' e', Inv ts.length n' e' → P n' (.nx e')) : Wp (sFor (iSeq m) (bName j) body e) n P X := by
  rw [Wp_eq] at hs ⊢
  exact wp_forS ha Inv h0 hs hd
theorem lc {it : Env → M (Env × List Item)} {bd : Item → Env → Option Env} {el : Env → M (Env × Dv)} {vs : List Nat} {Pm : Nat → Env × Dv → Prop} {c : Nat} {its : List Item} (hi : it e = .ret (e1, its)) (Pe : Item → Tr → Prop) (hnl : noLive e1 vs = true) (hl : its.length ≤ 80000) (hn : c * its.length ≤ n)
    (hs : ∀ it ∈ its, ∀ n', c ≤ n' → ∃ e2, bd it (wipeS e1 vs) = some e2 ∧ t e2 = .ret (e2, true) ∧ backS e1 e2 vs = e1 ∧ Wp (el e2) n' (fun n2 r => n' ≤ n2 + c ∧ r.1 = e2 ∧ ∃ x, r.2 = .t x ∧ Pe it x) (fun _ _ _ => False))
    (k : ∀ n' xs, n ≤ n' + c * its.length → Paired Pe its xs → Pm n' (e1, .fr xs)) : Wp (eLc it bd t el vs e) n Pm X := by
  rw [Wp_eq] at hs
  refine mk ?_
  rw [lcE hi]
  refine wp_lc Pe hnl (by simpa using hl) hn (fun it m n' hn' => ?_) k
  obtain ⟨e2, h1, h2, h3, h4⟩ := hs it m n' hn'
  exact ⟨e2, h1, h2, h3, wp_noRz' h4⟩
end
end W
end Ev

namespace Ev
open PySem L2 Evl Dl
section
variable {X : Cx} {K : PySem.W.Frag} {wd : World} {f : Fx} {W : WX} {G G' H H' : Hp} {n : Nat} {σ : St} {e : Env} {o r tm tmp : List (Addr × List En)} {ds : List Dv} {vs : List V} {d : Addr}
/-! ### a table of the module: letters, tuples of ints -/
abbrev QT := List (Str × Option (List Int))
def qtOk (K : PySem.W.Frag) (d : Addr) (tab : QT) : Bool := tab.all fun y => match PySem.W.nsIn K d y.1 with
  | some (some (.ref a)) => (match y.2 with
    | some ns => tupInK K a ns
    | none => false)
  | some none => y.2.isNone
  | _ => false
structure QTab (K : PySem.W.Frag) (wd : World) (d : Addr) (tab : QT) : Prop where
  ok : qtOk K d tab = true
  kd : ∃ es n, KDict K wd d es n
def qLook (tab : QT) (z : Str) : Option (Option (List Int)) := (tab.find? fun y => decide (y.1 = z)).map (·.2)
theorem qLook_mem {tab : QT} {z : Str} {q : Option (List Int)} (h : qLook tab z = some q) : (z, q) ∈ tab := by
  unfold qLook at h
  obtain ⟨y, h1, rfl⟩ := Option.map_eq_some_iff.mp h
  have h2 := List.find?_some h1
  have h3 : y.1 = z := of_decide_eq_true h2
  rw [← h3]
  exact List.mem_of_find?_eq_some h1
theorem QTab.look {tab : QT} {z : Str} {q : Option (List Int)} (T : QTab K wd d tab) (h : qLook tab z = some q) : match q with
    | some ns => ∃ a, PySem.W.nsIn K d z = some (some (.ref a)) ∧ tupInK K a ns = true
    | none => PySem.W.nsIn K d z = some none := by
  have m := List.all_eq_true.mp T.ok _ (qLook_mem h)
  dsimp only at m
  split at m
  · rename_i a e1
    split at m
    · rename_i ns
      exact ⟨a, e1, m⟩
    · cases m
  · rename_i e1
    cases q with
    | none => exact e1
    | some ns => cases m
  · cases m
def rInQ (d : Addr) (tab : QT) (neg : Bool) : R2 := fun x y H Q => ∃ z q, x = .str z ∧ y = .ref d ∧ qLook tab z = some q ∧ Q (.bl (neg != q.isSome)) H
theorem op_inQ {tab : QT} (T : QTab X.K X.w d tab) : OpR X (compareOp .In) (rInQ d tab false) := by
  intro pins s σ H x y v u Q I rx ry h
  obtain ⟨z, q, rfl, rfl, hq, k⟩ := h
  obtain ⟨es, n, D⟩ := T.kd
  have hl := T.look hq
  cases q with
  | none => exact op_in_kd D pins s σ H _ _ v u Q I rx ry ⟨z, none, rfl, rfl, hl, k⟩
  | some ns =>
    obtain ⟨a, h1, _⟩ := hl
    exact op_in_kd D pins s σ H _ _ v u Q I rx ry ⟨z, _, rfl, rfl, h1, k⟩
theorem op_notInQ {tab : QT} (T : QTab X.K X.w d tab) : OpR X (compareOp .NotIn) (rInQ d tab true) := by
  intro pins s σ H x y v u Q I rx ry h
  obtain ⟨z, q, rfl, rfl, hq, k⟩ := h
  obtain ⟨es, n, D⟩ := T.kd
  have hl := T.look hq
  cases q with
  | none => exact op_notIn_kd D pins s σ H _ _ v u Q I rx ry ⟨z, none, rfl, rfl, hl, k⟩
  | some ns =>
    obtain ⟨a, h1, _⟩ := hl
    exact op_notIn_kd D pins s σ H _ _ v u Q I rx ry ⟨z, _, rfl, rfl, h1, k⟩
def rGetQ (K : PySem.W.Frag) (d : Addr) (tab : QT) : R2 := fun x y H Q => ∃ z ns, x = .ref d ∧ y = .str z ∧ qLook tab z = some (some ns) ∧ ∀ a, tupInK K a ns = true → Q (.ref a) H
theorem ix_Q {tab : QT} (T : QTab X.K X.w d tab) : IxR X (rGetQ X.K d tab) := by
  intro value slice pins s σ H x y v u Q I rx ry h hs
  obtain ⟨z, ns, rfl, rfl, hq, k⟩ := h
  obtain ⟨es, n, D⟩ := T.kd
  obtain ⟨a, h1, h2⟩ := T.look hq
  exact ix_kdict value slice pins s σ H _ _ v u Q I rx ry ⟨d, z, .ref a, rfl, rfl, ⟨es, n, _, D.at_, D.lit, h1, rfl⟩, k a h2⟩ hs
def eInQ (neg : Bool) (tab : QT) (a : Env → M (Env × Dv)) : Env → M (Env × Dv) := fun e => (a e).bind fun p => match view p.1 p.2 with
  | some (.str z) => match qLook tab z with
    | some q => .ret (p.1, .t (.bl (neg != q.isSome)))
    | none => .bad
  | _ => .bad
theorem se_inQ {neg : Bool} {tab : QT} {ta : TE} {a : Env → M (Env × Dv)} (ha : SE K f W ta a) : SE K f W (tOp (rInQ d tab neg) ta (tC (.ref d))) (eInQ neg tab a) := fun n tmp e G H σ Q X s xw w => by
  refine ha n tmp e G H σ _ X s xw (wp_imp (wpb w) fun n1 p w1 v G1 H1 x1 sv => ?_)
  have sm := svs_sem sv
  split at w1
  · rename_i z q
    have tz := svs_view sv q
    cases tz
    split at w1
    · rename_i q2 h2
      exact ⟨z, q2, rfl, rfl, h2, w1 _ G1 H1 x1 (sv_t sm (.bl _))⟩
    · exact w1.elim
  · exact w1.elim
def eGetQ (tab : QT) (a : Env → M (Env × Dv)) : Env → M (Env × Dv) := fun e => (a e).bind fun p => match view p.1 p.2 with
  | some (.str z) => match qLook tab z with
    | some (some ns) => .ret (p.1, .t (trI ns))
    | _ => .bad
  | _ => .bad
theorem se_getQ {tab : QT} {ta : TE} {a : Env → M (Env × Dv)} (ha : SE K f W ta a) : SE K f W (tOp (rGetQ K d tab) (tC (.ref d)) ta) (eGetQ tab a) := fun n tmp e G H σ Q X s xw w => by
  refine ha n tmp e G H σ _ X s xw (wp_imp (wpb w) fun n1 p w1 v G1 H1 x1 sv => ?_)
  have sm := svs_sem sv
  split at w1
  · rename_i z q
    have tz := svs_view sv q
    cases tz
    split at w1
    · rename_i ns h2
      exact ⟨z, ns, rfl, rfl, h2, fun a ha => w1 _ G1 H1 x1 (sv_t sm (tpW ha G1))⟩
    · exact w1.elim
  · exact w1.elim
/-! ### WORDS[turn] -/
theorem ix_W {tab : List (List Int × Str)} (hu : X.A.units + 64 < cLine) (T : Tab X.K d tab) : IxR X (rGetW X.K d tab) := by
  intro value slice pins s σ H x y v u Q I rx ry h hs
  obtain ⟨a, ns, z, rfl, rfl, hq, hz, q⟩ := h
  have hx : v = Value.ref d := rx
  subst hx
  obtain ⟨xs, ob, es, ep, ho, hxs, hd, he, hm, r, hsys, _⟩ := T.dict I.kIn X.prog X.w
  exact PyProof.Rows.tail_any hm.typeIs PySem.F.slot_dict_getitem.lookup (op_getW hu T pins s σ H (.ref d) (.ref a) (.ref d) u Q I rfl ry ⟨a, ns, z, rfl, rfl, hq, hz, q⟩) hs
/-! ### texts' methods -/
def eSM (g : Str → List Tr → Option Tr) (to : Env → M (Env × Dv)) (ta : Env → M (Env × List Dv)) : Env → M (Env × Dv) := fun e => (to e).bind fun p => match p.2 with
  | .t (.str a) => (ta p.1).bind fun q => match views q.1 q.2 with
    | some xs => match g a xs with
      | some z => .ret (q.1, .t z)
      | none => .bad
    | none => .bad
  | _ => .bad
theorem se_sm {r : V → List V → Hp → VK → Prop} {g : Str → List Tr → Option Tr} {to : TE} {ta : TA} {mo : Env → M (Env × Dv)} {ma : Env → M (Env × List Dv)} (hz : ∀ a xs z, g a xs = some z → scalT z = true) (h : ∀ H a vs xs z (Q : VK), TpAll K H vs xs → g a xs = some z → Q (vS z) H → r (.str a) vs H Q) (ho : SE K f W to mo) (ha : SA K f W ta ma) :
    SE K f W (tBM K "str" r to ta) (eSM g mo ma) := fun n tmp e G H σ Q X s xw w => by
  refine ho n tmp e G H σ _ X s xw (wp_imp (wpb w) fun n1 p w1 v G1 H1 x1 sv => ?_)
  obtain ⟨e1, d1⟩ := p
  dsimp only at w1 sv
  split at w1
  · rename_i a
    obtain ⟨tk, s1⟩ := sv_t_iff.mp sv
    cases tk
    refine ⟨rfl, ha n1 tmp e1 G1 H1 σ _ X s1 xw (wp_imp (wpb w1) fun n2 p2 w2 vs G2 H2 x2 svs => ?_)⟩
    split at w2
    · rename_i xs q
      obtain ⟨al, sm⟩ := svs_views svs q
      split at w2
      · rename_i z q2
        exact h H2 a vs xs z Q al q2 (w2 _ G2 H2 (x1.trans x2) (sv_t sm (tp_vS (hz _ _ _ q2))))
      · exact w2.elim
    · exact w2.elim
  · exact w1.elim
def strsT : List Tr → Option (List Str)
  | [] => some []
  | .str x :: r => match strsT r with
    | some xs => some (x :: xs)
    | none => none
  | _ :: _ => none
theorem strsT_ok : ∀ {ts : List Tr} {ns : List Str} {xs : List V}, strsT ts = some ns → TpAll K G xs ts → xs = ns.map V.str
  | [], _, _, q, al => by cases q; cases al; rfl
  | t :: ts, ns, xs, q, al => by
    cases al with
    | cons a al =>
      cases t with
      | str b =>
        cases z : strsT ts with
        | none => simp [strsT, z] at q
        | some bs' =>
          simp only [strsT, z, Option.some.injEq] at q
          subst q
          cases a
          rw [strsT_ok z al]
          rfl
      | _ => cases q
theorem strsT_map (ns : List Str) : strsT (ns.map .str) = some ns := by
  induction ns with
  | nil => rfl
  | cons a t ih => simp [strsT, ih]
def rJoin (K : PySem.W.Frag) : V → List V → Hp → VK → Prop := fun x xs H Q => ∃ a p, ∃ ys : List Str, x = .str a ∧ xs = [.ref p] ∧ (SqL K H p (ys.map V.str) ∨ SqT K H p (ys.map V.str)) ∧ (ys.map (·.length)).sum + ys.length * a.length ≤ 16777216 ∧ Q (.str (Txt.join a ys)) H
theorem mt_joinN : MtR X "str.join" (rJoin X.K) := mt_join
def gJoin : Str → List Tr → Option Tr := fun a xs => match xs with
  | [.lst ts] => match strsT ts with
    | some ys => if (ys.map (·.length)).sum + ys.length * a.length ≤ 100000 then some (.str (Txt.join a ys)) else none
    | none => none
  | _ => none
theorem se_join {to : TE} {ta : TA} {mo : Env → M (Env × Dv)} {ma : Env → M (Env × List Dv)} (ho : SE K f W to mo) (ha : SA K f W ta ma) : SE K f W (tBM K "str" (rJoin K) to ta) (eSM gJoin mo ma) := by
  refine se_sm (fun a xs z q => ?_) (fun H a vs xs z Q al q k => ?_) ho ha
  · unfold gJoin at q
    split at q
    · split at q
      · split at q
        · cases q; rfl
        · cases q
      · cases q
    · cases q
  · unfold gJoin at q
    split at q
    · split at q
      · rename_i ts _ ys q2
        split at q
        · rename_i hl
          cases q
          cases al with
          | cons t1 al =>
            cases al
            cases t1 with
            | lst sq al2 =>
              have := strsT_ok q2 al2
              subst this
              exact ⟨a, _, ys, rfl, rfl, .inl (sq_of sq), Nat.le_trans hl (by decide), k⟩
        · cases q
      · cases q
    · cases q
def rSIndex : V → List V → Hp → VK → Prop := fun x xs H Q => ∃ a b i rest, x = .str a ∧ xs = [.str b] ∧ Builtin.Str.occurrences a b 0 a.length 1 = i :: rest ∧ Q (.int (i : Nat)) H
theorem mt_sindexN : MtR X "str.index" rSIndex := mt_sindex
def gSIndex : Str → List Tr → Option Tr := fun a xs => match xs with
  | [.str b] => match Builtin.Str.occurrences a b 0 a.length 1 with
    | i :: _ => some (.int (i : Nat))
    | [] => none
  | _ => none
theorem se_sindex {to : TE} {ta : TA} {mo : Env → M (Env × Dv)} {ma : Env → M (Env × List Dv)} (ho : SE K f W to mo) (ha : SA K f W ta ma) : SE K f W (tBM K "str" rSIndex to ta) (eSM gSIndex mo ma) := by
  refine se_sm (fun a xs z q => ?_) (fun H a vs xs z Q al q k => ?_) ho ha
  · unfold gSIndex at q
    split at q
    · split at q
      · cases q; rfl
      · cases q
    · cases q
  · unfold gSIndex at q
    split at q
    · rename_i b
      split at q
      · rename_i i rest q2
        cases q
        cases al with
        | cons t1 al =>
          cases al
          cases t1
          exact ⟨a, b, i, rest, rfl, rfl, q2, k⟩
      · cases q
    · cases q
/-! ### list.index of data -/
def idxE (x : Tr) : Nat → List Tr → Option Nat
  | _, [] => none
  | k, t :: ts => if PyData.eqv (toD t) (toD x) = true then some k else idxE x (k + 1) ts
theorem idxE_ok {x : Tr} : ∀ {ts : List Tr} {k j : Nat}, idxE x k ts = some j → ∃ i t, j = k + i ∧ ts[i]? = some t ∧ PyData.eqv (toD t) (toD x) = true ∧ ∀ m t', m < i → ts[m]? = some t' → PyData.eqv (toD t') (toD x) = false
  | [], _, _, h => by cases h
  | t :: ts, k, j, h => by
    unfold idxE at h
    split at h
    · rename_i q
      cases h
      exact ⟨0, t, rfl, rfl, q, fun m t' hm => absurd hm (Nat.not_lt_zero _)⟩
    · rename_i q
      obtain ⟨i, t2, h1, h2, h3, h4⟩ := idxE_ok h
      refine ⟨i + 1, t2, by omega, by simpa using h2, h3, fun m t' hm ht' => ?_⟩
      cases m with
      | zero =>
        simp only [List.getElem?_cons_zero, Option.some.injEq] at ht'
        subst ht'
        cases z : PyData.eqv (toD t) (toD x) with
        | false => rfl
        | true => exact absurd z q
      | succ m => exact h4 m t' (by omega) (by simpa using ht')
def eIdx (to : Env → M (Env × Dv)) (ta : Env → M (Env × List Dv)) : Env → M (Env × Dv) := fun e => (to e).bind fun p => match seqv p.1 p.2 with
  | some (false, _) => (ta p.1).bind fun q => match seqv q.1 p.2, q.2 with
    | some (false, ts), [d] => match view q.1 d with
      | some x => if (okT 20 (.lst ts) && okT 20 x) = true then match idxE x 0 ts with
          | some j => .ret (q.1, .t (.int (j : Nat)))
          | none => .bad
        else .bad
      | none => .bad
    | _, _ => .bad
  | _ => .bad
theorem se_idx {to : TE} {ta : TA} {mo : Env → M (Env × Dv)} {ma : Env → M (Env × List Dv)} (ho : SE K f W to mo) (ha : SA K f W ta ma) : SE K f W (tBM K "list" (rIndexD K) to ta) (eIdx mo ma) := fun n tmp e G H σ Q X s xw w => by
  refine ho n tmp e G H σ _ X s xw (wp_imp (wpb w) fun n1 p w1 v G1 H1 x1 sv => ?_)
  split at w1
  · rename_i ts0 q0
    obtain ⟨a0, xs0, rfl, sq0, al0⟩ := svs_seq sv q0
    obtain ⟨tm, dk, s1⟩ := sv
    refine ⟨.inl ⟨rfl, xs0, sq_of sq0⟩, ha n1 (tm ++ tmp) p.1 G1 H1 σ _ X s1 xw (wp_imp (wpb w1) fun n2 p2 w2 vs G2 H2 x2 svs => ?_)⟩
    obtain ⟨e2, d2⟩ := p2
    dsimp only at w2 svs
    split at w2
    · rename_i ts d q2
      obtain ⟨tm2, dk2, s2⟩ := svs
      have sv3 : SVs K f n2 tmp e2 G2 H2 σ [p.2, d] (.ref a0 :: vs) := by
        obtain ⟨o2, re2, j2⟩ := s2
        refine ⟨tm ++ tm2, (dk.mono x2).cat dk2, o2, re2, jperm j2 (List.Perm.append_right o2 ?_)⟩
        show (tm2 ++ (tm ++ tmp)).Perm (tm ++ tm2 ++ tmp)
        rw [← List.append_assoc]
        exact List.Perm.append_right tmp List.perm_append_comm
      obtain ⟨v1, v2, e3⟩ := vs2 sv3
      cases e3
      have sm := svs_sem sv3
      split at w2
      · rename_i x q3
        split at w2
        · rename_i hok
          obtain ⟨ok1, ok2⟩ := Bool.and_eq_true_iff.mp hok
          split at w2
          · rename_i j q4
            obtain ⟨i, t, h1, h2, h3, h4⟩ := idxE_ok q4
            have h1' : j = i := by omega
            subst h1'
            obtain ⟨a1, xs1, e4, sq1, al1⟩ := svs_seq sv3 q2
            cases e4
            have tl : Tp K H2 (.ref a0) (.lst ts) := .lst sq1 (al1.mono sm.ex)
            have tx : Tp K H2 v2 x := svs_view (svs_tail sv3) q3
            refine ⟨a0, v2, toD x, toDs ts, j, toD t, rfl, rfl, tp_dp tl ok1, tp_dp tx ok2, okT_shaped (t := .lst ts) ok1, okT_shaped ok2, ?_, h3, fun m z' hm hz' => ?_, w2 _ G2 H2 (x1.trans x2) (sv_t sm (.int _))⟩
            · rw [toDs_map, List.getElem?_map, h2]
              rfl
            · rw [toDs_map, List.getElem?_map] at hz'
              obtain ⟨t', ht', rfl⟩ := Option.map_eq_some_iff.mp hz'
              exact h4 m t' hm ht'
          · exact w2.elim
        · exact w2.elim
      · exact w2.elim
    · exact w2.elim
  · exact w1.elim
/-! ### tuple.index of ints -/
def idxI (x : Int) : Nat → List Int → Option Nat
  | _, [] => none
  | k, t :: ts => if t = x then some k else idxI x (k + 1) ts
theorem idxI_ok {x : Int} : ∀ {ts : List Int} {k j : Nat}, idxI x k ts = some j → ∃ i, j = k + i ∧ ts[i]? = some x ∧ ∀ m, m < i → ts[m]? ≠ some x
  | [], _, _, h => by cases h
  | t :: ts, k, j, h => by
    unfold idxI at h
    split at h
    · rename_i q
      cases h
      exact ⟨0, rfl, by rw [q]; rfl, fun m hm => absurd hm (Nat.not_lt_zero _)⟩
    · rename_i q
      obtain ⟨i, h1, h2, h4⟩ := idxI_ok h
      refine ⟨i + 1, by omega, by simpa using h2, fun m hm ht' => ?_⟩
      cases m with
      | zero =>
        simp only [List.getElem?_cons_zero, Option.some.injEq] at ht'
        exact q ht'
      | succ m => exact h4 m (by omega) (by simpa using ht')
def eIdxT (to te : Env → M (Env × Dv)) : Env → M (Env × Dv) := fun e => (to e).bind fun p => match p.2 with
  | .t (.tup us) => (te p.1).bind fun q => match q.2, intsT us with
    | .t (.int i), some ns => match idxI i 0 ns with
      | some j => .ret (q.1, .t (.int (j : Nat)))
      | none => .bad
    | _, _ => .bad
  | _ => .bad
theorem se_idxT {to te : TE} {mo me : Env → M (Env × Dv)} (kt : KT K) (ho : SE K f W to mo) (he : SE K f W te me) : SE K f W (tBMT K (rIndexT K) to (tCons te tNil)) (eIdxT mo me) := fun n tmp e G H σ Q X s xw w => by
  refine ho n tmp e G H σ _ X s xw (wp_imp (wpb w) fun n1 p w1 v G1 H1 x1 sv => ?_)
  obtain ⟨e1, d1⟩ := p
  dsimp only at w1 sv
  split at w1
  · rename_i us
    obtain ⟨tk, s1⟩ := sv_t_iff.mp sv
    have tk' := tk
    cases tk with
    | tup sq al =>
      have s1' := s1
      obtain ⟨o1, re1, j1⟩ := s1'
      refine ⟨tyT_of kt j1 sq, he n1 tmp e1 G1 H1 σ _ X s1 xw (wp_imp (wpb w1) fun n2 p2 w2 u G2 H2 x2 sv2 => ?_)⟩
      obtain ⟨e2, d2⟩ := p2
      dsimp only at w2 sv2
      split at w2
      · rename_i i ns q
        obtain ⟨ti, s2⟩ := sv_t_iff.mp sv2
        cases ti
        split at w2
        · rename_i j q2
          obtain ⟨i0, h1, h2, h3⟩ := idxI_ok q2
          have h1' : j = i0 := by omega
          subst h1'
          have := intsT_ok q al
          subst this
          exact ⟨_, ns, i, j, rfl, rfl, ex_t (x2.trans s2.ex) sq, h2, h3, w2 _ G2 H2 (x1.trans x2) (sv_t s2 (.int _))⟩
        · exact w2.elim
      · exact w2.elim
  · exact w1.elim
/-! ### text * int -/
def rMulS : R2 := fun x y H Q => ∃ a k, x = .str a ∧ y = .int k ∧ MulOk a k ∧ Q (.str (Txt.mul a k)) H
theorem op_mulS : OpR X (binaryOp .Mult) rMulS := by
  intro pins s σ H x y v u Q I rx ry h
  obtain ⟨a, k, rfl, rfl, hok, q⟩ := h
  obtain ⟨t, rfl⟩ := rx
  obtain ⟨t2, rfl⟩ := ry
  exact SB.mul hok fun t' tk => ⟨.str _, H, I.tok _, ⟨t', rfl⟩, q⟩
theorem mulOk_of {a : Str} {k : Int} (h1 : smallI k = true) (h2 : a.length * k.toNat ≤ 100000) : MulOk a k := by
  have h1 := smallI_iff.mp h1
  refine ⟨?_, fun hn hc => ?_, fun hn hc => ?_⟩
  · rw [Bool.or_eq_false_iff]
    exact ⟨decide_eq_false (by omega), decide_eq_false (by omega)⟩
  · have hk : 0 < k := by omega
    have : (a.length : Int) ≤ (2 ^ 63 - 1) / k := by
      rw [Int.le_ediv_iff_mul_le hk]
      have h3 : (a.length : Int) * k = ((a.length * k.toNat : Nat) : Int) := by
        rw [Int.natCast_mul, Int.toNat_of_nonneg (by omega)]
      rw [h3]
      omega
    omega
  · unfold Builtin.Str.tooLong
    rw [decide_eq_false_iff_not, sizeLine_eq]
    omega
def rMulV (K : PySem.W.Frag) : R2 := fun x y H Q => rMulU K x y H Q ∨ rMulS x y H Q
theorem op_mulV : OpR X (binaryOp .Mult) (rMulV X.K) := OpR.or op_mulU op_mulS
def oMulV : Env → List Dv → M (Env × Dv) := fun e ds => match ds with
  | [.t (.str a), .t (.int k)] => if smallI k = true ∧ a.length * k.toNat ≤ 100000 then .ret (e, .t (.str (Txt.mul a k))) else .bad
  | ds => oMul e ds
theorem os_mulV : OS K f W (R2S (rMulV K)) oMulV := fun n tmp e G H σ ds vs Q X s xw w => by
  unfold oMulV at w
  split at w
  · rename_i a k
    obtain ⟨v, u, rfl⟩ := vs2 s
    have t1 := svs_view s rfl
    have t2 := svs_view (svs_tail s) rfl
    cases t1
    cases t2
    split at w
    · rename_i hc
      exact ⟨_, _, rfl, .inr ⟨a, k, rfl, rfl, mulOk_of hc.1 hc.2, w _ G H (Ex.refl G) (sv_t (svs_sem s) (.str _))⟩⟩
    · exact w.elim
  · obtain ⟨x, y, h1, h2⟩ := os_mul n tmp e G H σ ds vs Q X s xw w
    exact ⟨x, y, h1, .inl h2⟩
/-! ### a, b, .. = a list -/
def bUnl (m : Nat) (r : List Tr → Env → Option Env) : Item → Env → Option Env := fun it e => match it with
  | .one (.lst ts) => if ts.length = m then r ts e else none
  | _ => none
theorem sg_unl {m : Nat} {gs : TGs} {r : List Tr → Env → Option Env} (hs : SGs K f gs r) : SG K f (gUnl K m gs) (bUnl m r) := fun n tmp e G H σ v it e' Q s y q k => by
  cases it with
  | one t =>
    cases t with
    | lst ts =>
      cases y with
      | lst sq al =>
        have q' : (if ts.length = m then r ts e else none) = some e' := q
        by_cases hm : ts.length = m
        · rw [if_pos hm] at q'
          exact ⟨_, _, rfl, sq_of (s.ex _ _ sq), by rw [al.len]; exact hm, hs n tmp e G H σ _ ts e' Q s al q' k⟩
        · rw [if_neg hm] at q'
          cases q'
    | _ => cases q
  | two a b => cases q
end
end Ev

namespace Ev
open PySem L2 Evl Dl
/-! ### classes of refusal, by numerals -/
def kxL (rs cs : List Addr) : Addr → V → Option Bool := fun C v => if rs.contains C = true then (match v with
    | .ref d => if cs.contains d = true then some (C == d) else none
    | .ty n => if n = "ValueError" then some true else none
    | _ => none) else none
def kxB (K : PySem.W.Frag) (rs cs : List Addr) : Bool := rs.all fun C => askB K C && cs.all fun d => PySem.W.kitOne K (.ref C) (.ref d) == some (C == d)
theorem kx_of {K : PySem.W.Frag} {rs cs : List Addr} (h : kxB K rs cs = true) : KX K (kxL rs cs) := fun C v b q => by
  unfold kxL at q
  split at q
  · rename_i hc
    have h1 := List.all_eq_true.mp h C (List.contains_iff_mem.mp hc)
    obtain ⟨h2, h3⟩ := Bool.and_eq_true_iff.mp h1
    obtain ⟨h4, h5⟩ := ask_of h2
    refine ⟨h4, ?_⟩
    split at q
    · rename_i d
      split at q
      · rename_i hd
        cases q
        exact ⟨.ref d, fun u r => relv_ref r, beq_iff_eq.mp (List.all_eq_true.mp h3 d (List.contains_iff_mem.mp hd))⟩
      · cases q
    · rename_i n
      split at q
      · rename_i hn
        cases q
        subst hn
        exact ⟨.type "ValueError", fun u r => relv_ty r, h5⟩
      · cases q
    · cases q
  · cases q
def exmL (rs : List Addr) : Addr → Bool := fun C => rs.contains C
def raisB (K : PySem.W.Frag) (rs : List Addr) (CE : Addr) : Bool := rs.all fun C => raiB K C CE
theorem raisB_at {K : PySem.W.Frag} {rs : List Addr} {CE C : Addr} {mg : Str → Option Value} {x : Str} (h : raisB K rs CE = true) (hc : rs.contains C = true) (g : mg x = some (.ref C)) : Rai K mg x C := (rai_of g (List.all_eq_true.mp h C (List.contains_iff_mem.mp hc))).1
theorem exm_of {K : PySem.W.Frag} {rs : List Addr} {CE : Addr} (h : raisB K rs CE = true) : ∀ C, exmL rs C = true → PySem.W.exmOne K (.ref C) (.ref CE) = some true := fun C hc => (rai_of (mg := fun _ => some (.ref C)) (x := "") rfl (List.all_eq_true.mp h C (List.contains_iff_mem.mp hc))).2
section
variable {K : PySem.W.Frag} {f : Fx} {W : WX} {G H : Hp} {n : Nat} {σ : St} {e : Env} {tmp : List (Addr × List En)} {a : Addr} {ns : List Int}
/-! ### the script -/
def Scr (K : PySem.W.Frag) (f : Fx) (a : Addr) (ns : List Int) : Prop := f.pu = none ∧ SqL K f.H0 a (ns.map V.int)
theorem scr_at (h : Scr K f a ns) (s : Sem K f n tmp e G H σ) : SqL K H a (ns.map V.int) := by
  obtain ⟨o, re, j⟩ := s
  refine ex_l (fun b ob z => j.fr b ob ?_ z) h.2
  rintro ⟨p, c, e1, _⟩
  rw [h.1] at e1
  cases e1
def eScrLen (a : Addr) (ns : List Int) (i : Nat) : Env → M (Env × Dv) := fun e => match e[i]? with
  | some (.vv (.ref b)) => if b = a then .ret (e, .t (.int (ns.length : Nat))) else .bad
  | _ => .bad
theorem se_scrLen {i : Nat} (h : Scr K f a ns) : SE K f W (tCB (rLenU K) (tCons (tVar i) tNil)) (eScrLen a ns i) := fun n tmp e G H σ Q X s xw w => by
  unfold eScrLen at w
  split at w
  · rename_i b q
    split at w
    · rename_i hb
      subst hb
      have sq := scr_at h s
      have s0 := s
      obtain ⟨o, re, j⟩ := s
      refine ⟨_, re.getV q, .inl ⟨b, ns.map V.int, rfl, .inl sq, ?_⟩⟩
      rw [List.length_map]
      exact w _ G H (Ex.refl G) (sv_t s0 (.int _))
    · exact w.elim
  · exact w.elim
def eScrIx (a : Addr) (ns : List Int) (i : Nat) (b : Env → M (Env × Dv)) : Env → M (Env × Dv) := fun e => match e[i]? with
  | some (.vv (.ref c)) => if c = a then (b e).bind fun p => match p.2 with
      | .t (.int k) => match ixN ns.length k with
        | some j => match ns[j]? with
          | some x => .ret (p.1, .t (.int x))
          | none => .bad
        | none => .bad
      | _ => .bad
    else .bad
  | _ => .bad
theorem se_scrIx {i : Nat} {tb : TE} {b : Env → M (Env × Dv)} (h : Scr K f a ns) (hb : SE K f W tb b) : SE K f W (tOp (rIx K) (tVar i) tb) (eScrIx a ns i b) := fun n tmp e G H σ Q X s xw w => by
  unfold eScrIx at w
  split at w
  · rename_i c q
    split at w
    · rename_i hc
      subst hc
      have s0 := s
      obtain ⟨o, re, j⟩ := s
      refine ⟨_, re.getV q, hb n tmp e G H σ _ X s0 xw (wp_imp (wpb w) fun n1 p w1 v G1 H1 x1 sv => ?_)⟩
      obtain ⟨e1, d⟩ := p
      dsimp only at w1 sv
      split at w1
      · rename_i k
        obtain ⟨tk, s1⟩ := sv_t_iff.mp sv
        cases tk
        split at w1
        · rename_i j1 q1
          split at w1
          · rename_i x q2
            refine .inl ⟨c, ns.map V.int, k, .int x, rfl, rfl, scr_at h s1, ?_, w1 _ G1 H1 x1 (sv_t s1 (.int x))⟩
            unfold atI
            rw [List.length_map, q1]
            simp [q2]
          · exact w1.elim
        · exact w1.elim
      · exact w1.elim
    · exact w.elim
  · exact w.elim
/-! ### a def that is handed the script -/
def spES (K : PySem.W.Frag) (F : Addr → List Int → List Slot → M Rv) (k : Nat) : Sp := fun vs H Q E => vs.length = k ∧ ∃ a ns n G ss, SqL K H a (ns.map V.int) ∧ J K ⟨none, H, G⟩ ⟨n, []⟩ G H ∧ AOk K none G vs ss ∧
  wp (F a ns ss) n (fun n' r => ∀ v G2 H2, RVok K ⟨none, H, G⟩ n' G2 H2 r v → Q v H2) (fun n' _ C => ∀ G2 H2 d, J K ⟨none, H, G⟩ ⟨n', []⟩ G2 H2 → XO G2 C d → E (.ref (xCls C)) d H2)
theorem spES_len {F : Addr → List Int → List Slot → M Rv} {k : Nat} (vs : List V) (H : Hp) (Q : VK) (E : XK) (h : spES K F k vs H Q E) : vs.length = k := h.1
theorem se_callScr {F : Addr → List Int → List Slot → M Rv} {k : Nat} {ta : TA} {aa : Env → M (Env × List Dv)} (h : Scr K f a ns) (ha : SA K f W ta aa) : SE K f W (tCallS (spES K F k) (WE W) ta) (evCall (F a ns) k aa) := fun n tmp e G H σ Q X s xw w => by
  refine ha n tmp e G H σ _ X s xw (wp_imp (wpb w) fun n1 p w1 vs G1 H1 x1 svs => ?_)
  cases q : slotsOf p.1 p.2 with
  | none => simp only [q] at w1; exact w1.elim
  | some z =>
    obtain ⟨e2, ss⟩ := z
    simp only [q] at w1
    split at w1
    · rename_i hk
      obtain ⟨G2, x2, s2, ak⟩ := slots_ok svs q
      have sq := scr_at h s2
      obtain ⟨o2, re2, j2⟩ := s2
      obtain ⟨tm, dk, o1, re1, j1⟩ := svs
      have hp := h.1
      have je := J.enter j2
      rw [hp] at je ak
      refine ⟨by rw [ak.len]; exact hk, a, ns, n1, G2, ss, sq, je, ak, ?_⟩
      refine wp_mono (fun n' r hr => ?_) (fun n' e' C hx => ?_) (wp_reRz.mp (wpb w1))
      · intro v G3 H3 rv
        cases r with
        | t x =>
          obtain ⟨k3, tp⟩ := rv
          have k3' : J K ⟨f.pu, H1, G2⟩ ⟨n', []⟩ G3 H3 := by rw [hp]; exact k3
          have hr' : ∀ (v : V) (G' H' : Hp), Ex G G' → SV K f n' tmp (if scalT x = true then p.1 else e2) G' H' σ (.t x) v → Q v H' := hr
          cases hs : scalT x with
          | true =>
            rw [hs, if_pos rfl] at hr'
            refine hr' v G1 H3 x1 (sv_t (Sem.drop (tm := tm) ⟨o1, re1, J.leaveS j1 k3'⟩) (scal_any tp hs))
          | false =>
            rw [hs, if_neg Bool.false_ne_true] at hr'
            exact hr' v G3 H3 (x1.trans (x2.trans k3.g0)) (sv_t ⟨o2, re2.mono k3.g0, J.leaveF (s := []) (r := tmp ++ o2) j2 k3'⟩ tp)
        | fr ts =>
          obtain ⟨D, rfl, k3⟩ := rv
          have k3' : J K ⟨f.pu, H1, G2⟩ ⟨n', [(D, ts.map (enT K))]⟩ G3 H3 := by rw [hp]; exact k3
          have hr' : ∀ (v : V) (G' H' : Hp), Ex G G' → SV K f n' tmp e2 G' H' σ (.fr ts) v → Q v H' := hr
          exact hr' _ G3 H3 (x1.trans (x2.trans k3.g0)) ⟨[(D, ts.map (enT K))], .fr .nil, o2, re2.mono k3.g0, J.leaveF (s := [(D, ts.map (enT K))]) (r := tmp ++ o2) j2 k3'⟩
      · intro G3 H3 d k3 xo
        have k3' : J K ⟨f.pu, H1, G2⟩ ⟨n', []⟩ G3 H3 := by rw [hp]; exact k3
        obtain ⟨G4, x4, j4, xo4⟩ := J.adopt j1 x2 j2 k3' xo
        exact xw n' (tm ++ tmp) p.1 G4 H3 σ C d ⟨o1, re1.mono x4, j4⟩ hx xo4
    · exact w1.elim
theorem run_evS {N : List Str} {k : Nat} {body : Addr → List Int → Env → M Out} {t : TS} {Q : VK} {E : XK} {vs : List V} (h : spES K (fun a ns => fnOf N.length (body a ns)) k vs H Q E) (hb : ∀ f a ns, Scr K f a ns → SS K f (fun cls d _ H' => E cls d H') t (body a ns)) : t { nx := fun _ H' => Q .non H', rt := Q } (start N vs) H := by
  obtain ⟨_, a, ns, n, G, ss, sq, j, ak, w⟩ := h
  have s0 : Sem K ⟨none, H, G⟩ n [] (ss ++ List.replicate (N.length - ss.length) .no) G H (start N vs) := by
    refine ⟨[], ?_, j⟩
    unfold L2.start
    rw [ak.len]
    exact re_start ak _
  refine hb ⟨none, H, G⟩ a ns ⟨rfl, sq⟩ n _ G H _ _ (fun n' _ C => ∀ G2 H2 d, J K ⟨none, H, G⟩ ⟨n', []⟩ G2 H2 → XO G2 C d → E (.ref (xCls C)) d H2) s0 (fun n' tmp e' G2 H2 σ2 C d s2 x xo => ?_) (wp_imp (wpb w) fun n' o w' => ?_)
  · obtain ⟨o, _, j2⟩ := s2
    exact x G2 H2 d (jsub j2 (List.nil_sublist _)) xo
  · cases o with
    | nx e' =>
      intro σ2 G2 H2 x s2
      obtain ⟨o, _, j2⟩ := s2
      exact w' .non G2 H2 ⟨jsub j2 (List.nil_sublist _), .non⟩
    | rt r => exact fun v G2 H2 x rv => w' v G2 H2 rv
    | bk e' => exact w'.elim
    | ct e' => exact w'.elim
/-! ### a law without a purse -/
theorem run_lawS {N : List Str} {k : Nat} {t : TS} {body : Addr → List Int → Env → M Out} {Q : VK} (hS : SqL K H a (ns.map V.int)) (hT : TF H) (hl : ns.length ≤ 63) (hN : N.length = k + 1)
    (hb : ∀ f a ns, Scr K f a ns → SS K f wNo t (body a ns)) (hw : ∀ a ns, ns.length ≤ 63 → wp (body a ns (.vv (.ref a) :: List.replicate k .no)) 0 (fun _ o => o = .rt (.t (.bl true))) (fun _ _ _ => False)) (hQ : ∀ H', Q (.bl true) H') :
    t { nx := fun _ H' => Q .non H', rt := Q } (start N [.ref a]) H := by
  unfold L2.start
  rw [hN]
  have j1 : J K ⟨none, H, H⟩ ⟨0, []⟩ H H := ⟨Ex.refl H, (fun D es m => by cases m), List.nodup_nil, (fun p' c' z => by cases z), fun b o _ z => z, Ex.refl H, fun b h1 h2 => absurd h2 h1, hT⟩
  refine hb ⟨none, H, H⟩ a ns ⟨rfl, hS⟩ 0 (.vv (.ref a) :: List.replicate k .no) H H _ _ (fun _ _ _ => False) ⟨[], ?_, j1⟩ (fun _ _ _ _ _ _ _ _ _ z _ => z) (wp_imp (hw a ns hl) fun n o ho => ?_)
  · show RE K _ H (some (.ref a) :: List.replicate k none) (.vv (.ref a) :: List.replicate k .no) []
    refine .vv ?_
    clear hN hb hw
    induction k with
    | zero => exact .nil
    | succ k ih => exact .no ih
  · subst ho
    intro v G' H' x rv
    obtain ⟨_, tp⟩ := rv
    cases tp
    exact hQ H'
/-! ### bits -/
theorem os_and : OS K f W (R2S (rI0 fun i j => .int (Builtin.bitAnd i j))) (o2 (gI (fun _ _ => true) Builtin.bitAnd)) := by
  rw [rI0_eq]
  exact os_I fun _ _ _ => trivial
end
end Ev

namespace Ev
open PySem L2 Evl Dl
/-! ### defaults -/
def relB : V → Value → Bool
  | .non, .none => true
  | .bl b, .bool c => b == c
  | .int i, .int j _ => i == j
  | _, _ => false
theorem relB_ok {v : V} {u : Value} (h : relB v u = true) : RelV v u := by
  unfold relB at h
  split at h
  · rfl
  · rw [beq_iff_eq.mp h]; rfl
  · rw [beq_iff_eq.mp h]; exact ⟨_, rfl⟩
  · cases h
def relsB : List V → List Value → Bool
  | [], [] => true
  | v :: vs, u :: us => relB v u && relsB vs us
  | _, _ => false
theorem relsB_ok : ∀ {vs : List V} {us : List Value}, relsB vs us = true → Vals vs us
  | [], [], _ => .nil
  | v :: vs, u :: us, h => by
    obtain ⟨h1, h2⟩ := Bool.and_eq_true_iff.mp (show (relB v u && relsB vs us) = true from h)
    exact .cons (relB_ok h1) (relsB_ok h2)
  | [], _ :: _, h => by cases h
  | _ :: _, [], h => by cases h
def dflB (K : PySem.W.Frag) (T : Addr) (dvs : List V) : Bool := match K.lookup T with
  | some o => match o.data with
    | .seq its _ => relsB dvs its.toList
    | _ => false
  | none => false
theorem funD_mk {K : PySem.W.Frag} {x qual : Str} {st : Stmt} {f T : Addr} {dvs : List V} {oc : Value} {od an : Option Addr} {osl : Array (Option Value)} {kV doc pm cdv ct : Value} (l : K.lookup f = some ⟨oc, od, .func (PySem.W.fnOf x qual (defArgs st) (defBody st) (defScope st) (.ref T) kV doc pm an cdv ct), osl⟩)
    (c : PySem.W.codeIn K cdv qual = true) (k : PySem.W.keepIn K (.ref f) = true) (hd : dvs ≠ []) (t : dflB K T dvs = true) : FunD K x qual (defArgs st) (defBody st) (defScope st) dvs [] f (PySem.W.fnOf x qual (defArgs st) (defBody st) (defScope st) (.ref T) kV doc pm an cdv ct) := by
  refine ⟨⟨oc, od, .ref T, kV, doc, pm, an, cdv, ct, osl, rfl, l, c, .inr ⟨hd, ?_⟩, .inl rfl⟩, k⟩
  unfold dflB at t
  split at t
  · rename_i o ho
    split at t
    · rename_i its n hn
      exact ⟨T, o, its.toList, n, rfl, ho, by rw [hn], relsB_ok t⟩
    · cases t
  · cases t
section
variable {K : PySem.W.Frag} {x qual : Str} {params : Arguments} {body : List Stmt} {scope : Scope} {dvs : List V} {f : Addr} {fd : FuncData} {ps ks : List Str}
theorem bindsD (F : FunD K x qual params body scope dvs [] f fd) (hd : dvs ≠ [])
    (h : ∀ (T : Addr) (kV doc pm : Value) (an : Option Addr) (cdv ct : Value) (us its : List Value), us.length = ps.length → its.length = dvs.length →
      ∃ k, bindArgs (PySem.W.fnOf x qual params body scope (.ref T) kV doc pm an cdv ct) ⟨us, []⟩ = seqItems? (.ref T) >>= k ∧ k (some its.toArray) = pure (ps.zip us)) : Binds K fd ps [] := by
  obtain ⟨oc, od, dV, kV, doc, pm, an, cdv, ct, osl, rfl, lk, hcd, hD, hK⟩ := F.ex
  rcases hD with ⟨e, _⟩ | ⟨_, T, o, its, m, rfl, lT, oT, rT⟩
  · exact absurd e hd
  · intro s us X hlen
    rw [List.append_nil] at hlen ⊢
    obtain ⟨k, e1, e2⟩ := h T kV doc pm an cdv ct us its hlen rT.length.symm
    refine BindsTo.of_looks fun M => ?_
    rw [e1]
    exact looks_items X lT oT (.of_pure e2)
theorem kbindsD {g : List Value → List Value → List Value} {gV : List V → List V → List V} (F : FunD K x qual params body scope dvs [] f fd) (hd : dvs ≠ [])
    (h : ∀ (T : Addr) (kV doc pm : Value) (an : Option Addr) (cdv ct : Value) (us ws its : List Value), (g us ws).length = ps.length → its.length = dvs.length →
      ∃ k, bindArgs (PySem.W.fnOf x qual params body scope (.ref T) kV doc pm an cdv ct) ⟨us, ks.zip ws⟩ = seqItems? (.ref T) >>= k ∧ k (some its.toArray) = pure (ps.zip (g us ws)))
    (hrel : ∀ {vs : List V} {us : List Value} {zs : List V} {ws : List Value}, Vals vs us → Vals zs ws → Vals (gV vs zs) (g us ws)) : KBinds K fd ps ks g gV := by
  obtain ⟨oc, od, dV, kV, doc, pm, an, cdv, ct, osl, rfl, lk, hcd, hD, hK⟩ := F.ex
  rcases hD with ⟨e, _⟩ | ⟨_, T, o, its, m, rfl, lT, oT, rT⟩
  · exact absurd e hd
  · refine ⟨fun s us ws X hlen => ?_, hrel⟩
    obtain ⟨k, e1, e2⟩ := h T kV doc pm an cdv ct us ws its hlen rT.length.symm
    refine BindsTo.of_looks fun M => ?_
    rw [e1]
    exact looks_items X lT oT (.of_pure e2)
/-- f() with all defaults -/
theorem kbinds0 (F : FunD K x qual params body scope dvs [] f fd) (hd : dvs ≠ []) (hl : dvs.length = ps.length)
    (h : ∀ (T : Addr) (kV doc pm : Value) (an : Option Addr) (cdv ct : Value) (its : List Value), its.length = dvs.length →
      ∃ k, bindArgs (PySem.W.fnOf x qual params body scope (.ref T) kV doc pm an cdv ct) ⟨[], []⟩ = seqItems? (.ref T) >>= k ∧ k (some its.toArray) = pure (ps.zip its)) : ∃ g, KBinds K fd ps [] g (fun vs _ => vs ++ dvs) := by
  obtain ⟨oc, od, dV, kV, doc, pm, an, cdv, ct, osl, rfl, lk, hcd, hD, hK⟩ := F.ex
  rcases hD with ⟨e, _⟩ | ⟨_, T, o, its, m, rfl, lT, oT, rT⟩
  · exact absurd e hd
  · refine ⟨fun us _ => us ++ its, fun s us ws X hlen => ?_, fun h1 h2 => h1.append rT⟩
    have e0 : us = [] := by
      rw [List.length_append, ← rT.length, hl] at hlen
      exact List.eq_nil_of_length_eq_zero (by omega)
    subst e0
    obtain ⟨k, e1, e2⟩ := h T kV doc pm an cdv ct its rT.length.symm
    refine BindsTo.of_looks fun M => ?_
    rw [List.zip_nil_left, List.nil_append, e1]
    exact looks_items X lT oT (.of_pure e2)
end
end Ev

namespace Ev
open PySem L2 Evl Dl
section
variable {K : PySem.W.Frag} {f : Fx} {W : WX} {G H : Hp} {n : Nat} {σ : St} {e : Env} {tmp : List (Addr × List En)}
theorem tpa_strs : ∀ ys : List Str, TpAll K G (ys.map V.str) (ys.map Tr.str)
  | [] => .nil
  | y :: ys => .cons (.str y) (tpa_strs ys)
/-! ### "..".split("..") -/
def eSplit (ys : List Str) : Env → M (Env × Dv) := fun e => .ret (e, .fr (ys.map .str))
theorem se_split {a b : Str} {ys : List Str} (hy : Txt.split a b = ys) (hb : (b.length == 0) = false) (ha : a.length + 2 ≤ 100000) : SE K f W (tBM K "str" rSplitS (tC (.str a)) (tCons (tC (.str b)) tNil)) (eSplit ys) := fun n tmp e G H σ Q X s xw w =>
  ⟨rfl, a, b, rfl, rfl, hb, sz_of ha, fun q hq => by rw [hy]; exact w _ G _ (Ex.refl G) (s.ownNew hq (tpa_strs ys))⟩
/-! ### xs[i], xs[j] = a, b -/
def sSwap (l i j : Nat) (a : Env → M (Env × Dv)) : Env → M Out := fun e => (a e).bind fun p => match p.2, p.1[l]?, p.1[i]?, p.1[j]? with
  | .t (.tup [x, y]), some (.live ts), some (.t (.int k1)), some (.t (.int k2)) => match ixN ts.length k1, ixN ts.length k2 with
    | some j1, some j2 => .ret (.nx (p.1.set l (.live ((ts.set j1 x).set j2 y))))
    | _, _ => .bad
  | _, _, _, _ => .bad
theorem ss_swap {l i j : Nat} {te : TE} {a : Env → M (Env × Dv)} (ha : SE K f W te a) (hli : l ≠ i) (hlj : l ≠ j) : SS K f W (tAsg te (gTup K 2 (gCons (gSub (tVar l) (tVar i) rSetL) (gCons (gSub (tVar l) (tVar j) rSetL) gNil)))) (sSwap l i j a) := fun n e G H σ D X s xw w => by
  refine ha n [] e G H σ _ X s xw (wp_imp (wpb w) fun n1 p w1 v G1 H1 x1 sv => ?_)
  obtain ⟨e1, d⟩ := p
  dsimp only at w1 sv
  split at w1
  · rename_i x y ts k1 k2 ql qi qj
    split at w1
    · rename_i j1 j2 p1 p2
      obtain ⟨tk, s1⟩ := sv_t_iff.mp sv
      cases tk with
      | tup sq al =>
        rename_i ad xs
        cases al with
        | cons t1 al =>
          cases al with
          | cons t2 al =>
            cases al
            obtain ⟨D0, us, hu, hD, alu⟩ := sem_live s1 ql
            have vi : σ[i]? = some (some (.int k1)) := by
              obtain ⟨o, re, jj⟩ := s1
              obtain ⟨v, q1, q2⟩ := re.getT qi
              cases q2
              exact q1
            have vj : σ[j]? = some (some (.int k2)) := by
              obtain ⟨o, re, jj⟩ := s1
              obtain ⟨v, q1, q2⟩ := re.getT qj
              cases q2
              exact q1
            have s2 := s1.setL ql hu (alu.setAt j1 t1)
            have ql2 : (e1.set l (.live (ts.set j1 x)))[l]? = some (.live (ts.set j1 x)) := List.getElem?_set_self (List.getElem?_eq_some_iff.mp ql).1
            have s3 := s2.setL ql2 hu ((alu.setAt j1 t1).setAt j2 t2)
            rw [List.set_set] at s3
            refine ⟨ad, _, rfl, ex_t s1.ex sq, rfl, ?_⟩
            refine ⟨_, _, rfl, _, hu, _, vi, D0, us, k1, j1, rfl, rfl, hD, by rw [alu.len]; exact p1, ?_⟩
            refine ⟨_, _, rfl, _, hu, _, vj, D0, _, k2, j2, rfl, rfl, upd_same, by rw [List.length_set, alu.len]; exact p2, rfl, ?_⟩
            exact w1 σ G1 _ x1 s3
    · exact w1.elim
  · exact w1.elim
end
end Ev
namespace Ev
open PySem L2 Evl Dl
section
variable {K : PySem.W.Frag} {f : Fx} {W : WX}
/-! ### a sign in a text -/
def rInSg (n : Bool) : R2 := fun x y H Q => ∃ (c : Nat) (z : Str), x = .str ⟨#[c]⟩ ∧ y = .str z ∧ Q (.bl (n != decide (c ∈ z.cps.toList))) H
theorem op_inSg {X : Cx} : OpR X (compareOp .In) (rInSg false) := by
  have e : rInSg false = fun x y H Q => ∃ (c : Nat) (z : Str), x = .str ⟨#[c]⟩ ∧ y = .str z ∧ Q (.bl (decide (c ∈ z.cps.toList))) H := by
    funext x y H Q
    unfold rInSg
    simp only [xf]
  rw [e]
  exact op_in_sign
theorem op_notInSg {X : Cx} : OpR X (compareOp .NotIn) (rInSg true) := by
  have e : rInSg true = fun x y H Q => ∃ (c : Nat) (z : Str), x = .str ⟨#[c]⟩ ∧ y = .str z ∧ Q (.bl (!decide (c ∈ z.cps.toList))) H := by
    funext x y H Q
    unfold rInSg
    have : ∀ b : Bool, (true != b) = !b := fun b => by cases b <;> rfl
    simp only [this]
  rw [e]
  exact op_notIn_sign
def gInSg (n : Bool) : Tr → Tr → Option Tr
  | .str ⟨⟨[c]⟩⟩, .str z => some (.bl (n != decide (c ∈ z.cps.toList)))
  | _, _ => none
theorem os_inSg {n : Bool} : OS K f W (R2S (rInSg n)) (o2 (gInSg n)) := by
  refine os_2 (fun x y z q => ?_) (fun H x y z v u Q a b q k => ?_)
  · unfold gInSg at q
    split at q
    · cases q; rfl
    · cases q
  · unfold gInSg at q
    split at q
    · cases q
      cases a
      cases b
      exact ⟨_, _, rfl, rfl, k⟩
    · cases q
end
end Ev
namespace Ev
open PySem L2 Evl Dl
section
variable {K : PySem.W.Frag} {f : Fx} {W : WX}
/-! ### texts that str() made, compared -/
def gNeS : Tr → Tr → Option Tr
  | .str a, .str b => some (.bl (!decide (a = b)))
  | _, _ => none
theorem os_neS : OS K f W (R2S rNe) (o2 gNeS) := by
  refine os_2 (fun x y z q => ?_) (fun H x y z v u Q a b q k => ?_)
  · unfold gNeS at q
    split at q
    · cases q; rfl
    · cases q
  · unfold gNeS at q
    split at q
    · rename_i s1 s2
      cases q
      cases a
      cases b
      refine ⟨rfl, ?_⟩
      have e : decide (V.str s1 = V.str s2) = decide (s1 = s2) := by
        by_cases h : s1 = s2
        · subst h; simp
        · have : ¬ V.str s1 = V.str s2 := fun z => h (by cases z; rfl)
          simp [h, this]
      rw [e]
      exact k
    · cases q
end
end Ev

namespace Ev
open PySem L2 Evl Dl
/-! ### objects: making, methods, by place, by keywords, with defaults -/
def tMakeKS (C : Addr) (sp : Sp) (gV : List V → List V → List V) (E : St → XK) (t tk : TA) : TE := fun σ H Q => t σ H fun vs H1 => tk σ H1 fun zs H2 => ∀ x dx, H2 x = none → H2 dx = none → dx ≠ x → sp (gV (.ref x :: vs) zs) (upd (upd H2 dx (.own x)) x (.ins C dx [])) (fun v H3 => v = .non ∧ Q (.ref x) H3) (E σ)
def tMethKS (C : Addr) (m : Str) (sp : Sp) (gV : List V → List V → List V) (E : St → XK) (ta : TE) (t tk : TA) : TE := fun σ H Q => ta σ H fun x H1 => ∃ a dx fs, x = .ref a ∧ H1 a = some (.ins C dx fs) ∧ fs.lookup m = none ∧ t σ H1 fun vs H2 => tk σ H2 fun zs H3 => sp (gV (x :: vs) zs) H3 Q (E σ)
section
variable {X : Cx} {CX : CXT} {k : Nat} {f C : Addr} {fd : FuncData} {ps ks : List Str} {sp : Sp} {x m : Str} {p pos apos : Pos} {E : St → XK} {g : List Value → List Value → List Value} {gV : List V → List V → List V} {kws : List Keyword} {t tk : TA} {ta : TE} {e o : Expr} {es : List Expr}
theorem run_makeKS {pins : List (Addr × Obj)} {σ : St} {H : Hp} {s : Shared} {Q : VK} {us ws : List Value} {vs zs : List V} (M : Mk X.K C f) (F : FnOk X.prog X.w X.K X.mg X.base CX k f fd ps sp) (hr : Room (k + 1) X.A) (hb : KBinds X.K fd ps ks g gV) (hx : PassesAt CX X σ (E σ))
    (I : Inv X pins σ H s) (r : Vals vs us) (rz : Vals zs ws)
    (h : ∀ x dx, H x = none → H dx = none → dx ≠ x → sp (gV (.ref x :: vs) zs) (upd (upd H dx (.own x)) x (.ins C dx [])) (fun v H2 => v = .non ∧ Q (.ref x) H2) (E σ)) :
    wpAny (model X.prog X.w) X.A (call (.ref C) us (ks.zip ws)) (EP X pins σ Q) X.xe s := by
  have hq := h (s.heap.objs.size + 1) s.heap.objs.size (I.hok.fresh (Nat.le_succ _)) (I.hok.fresh (Nat.le_refl _)) (Nat.ne_of_lt (Nat.lt_succ_self _))
  have I2 := Inv.made (C := C) I
  have r1 : Vals (V.ref (s.heap.objs.size + 1) :: vs) (Value.ref (s.heap.objs.size + 1) :: us) := .cons rfl r
  have r2 := hb.rel r1 rz
  have fits : (g (Value.ref (s.heap.objs.size + 1) :: us) ws).length = ps.length := r2.length ▸ F.len _ _ _ _ hq
  refine wpAny_call (make_map (f := f) I.kIn M.makes M.init (beq_iff_eq.mp M.fn) (codeAny_mono (F.run _ X.stack _ _ ⟨Value.ref (s.heap.objs.size + 1) :: us, ks.zip ws⟩ (g (Value.ref (s.heap.objs.size + 1) :: us) ws) _ _ (E σ) (hr.make C us (ks.zip ws))
    (I2.env0.make C us (ks.zip ws)) (hb.to _ (Value.ref (s.heap.objs.size + 1) :: us) ws I2.kIn fits) r2 hq) fun out s' hq' => ?_))
  cases out with
  | error er => exact hx pins _ _ er s' I2 hq'
  | ok fl =>
    cases fl with
    | ret u =>
      obtain ⟨v, H', I3, rv, ev, q3⟩ := I2.after hq'
      subst ev
      exact ⟨rv, ⟨V.ref (s.heap.objs.size + 1), H', I3, rfl, q3⟩⟩
    | next => exact False.elim hq'
    | brk => exact False.elim hq'
    | cont => exact False.elim hq'
theorem pe_makeKS (M : Mk X.K C f) (F : FnOk X.prog X.w X.K X.mg X.base CX k f fd ps sp) (hr : Room (k + 1) X.A) (hg : Gl X x) (hm : X.mg x = some (.ref C)) (hb : KBinds X.K fd ps ks g gV) (hx : ∀ σ, PassesAt CX X σ (E σ))
    (ha : PA X (e :: es) t) (hkw : PK X kws tk) (hall : (backToKw pos (keywordEach kws X.env)).all (·.1.isSome) = true := by rfl) (hks : (backToKw pos (keywordEach kws X.env)).filterMap (·.1) = ks := by rfl)
    (hdb : (x == ("__debug__" : Str)) = false := by decide) (he : starEach (e :: es) X.env = (false, eval e X.env) :: starEach es X.env := by rfl) (hpl : ((backTo pos (starEach (e :: es) X.env)).any (·.1) || (backToKw pos (keywordEach kws X.env)).any (·.1.isNone)) = false := by rfl) : PE X (.Call (.Name x p) (e :: es) kws pos) (tMakeKS C sp gV E t tk) :=
  ⟨fun pins s σ H Q I h => wpAny_Call_Name_kw (ld_glob I hg hm (PySem.W.callWith_KW (h₀ := X.base) I.ok.mod.kin M.kp hall (thn (ha.run pos pins s σ H _ I h) fun us s1 ⟨vs, H1, I1, r, q⟩ =>
    thn (hkw.run pos pins s1 σ H1 _ I1 q) fun ws s2 ⟨zs, H2, I2, rz, q2⟩ => ⟨I2.kIn, by rw [hks]; exact run_makeKS M F hr hb (hx σ) I2 r rz q2⟩) hpl he) hdb)⟩
theorem pe_makeK0S (M : Mk X.K C f) (F : FnOk X.prog X.w X.K X.mg X.base CX k f fd ps sp) (hr : Room (k + 1) X.A) (hg : Gl X x) (hm : X.mg x = some (.ref C)) (hb : KBinds X.K fd ps ks g gV) (hx : ∀ σ, PassesAt CX X σ (E σ))
    (hkw : PK X kws tk) (hall : (backToKw pos (keywordEach kws X.env)).all (·.1.isSome) = true := by rfl) (hks : (backToKw pos (keywordEach kws X.env)).filterMap (·.1) = ks := by rfl)
    (hdb : (x == ("__debug__" : Str)) = false := by decide) (hpl : ((backTo pos (starEach [] X.env)).any (·.1) || (backToKw pos (keywordEach kws X.env)).any (·.1.isNone)) = false := by rfl) : PE X (.Call (.Name x p) [] kws pos) (tMakeKS C sp gV E tNil tk) :=
  ⟨fun pins s σ H Q I h => wpAny_Call_Name_kw (ld_glob I hg hm (PySem.W.callWith_KW0 (h₀ := X.base) I.ok.mod.kin M.kp hall (thn (hkw.run pos pins s σ H _ I h) fun ws s2 ⟨zs, H2, I2, rz, q2⟩ =>
    ⟨I2.kIn, by rw [hks]; exact run_makeKS (us := []) (vs := []) M F hr hb (hx σ) I2 .nil rz q2⟩) hpl) hdb)⟩
theorem pe_methKS {pl : PySem.Sem Bool} (he : PE X o ta) (c : Cls X.K C) (hm : Meth X.K C m f) (F : FnOk X.prog X.w X.K X.mg X.base CX k f fd ps sp) (hr : Room k X.A) (hb : KBinds X.K fd ps ks g gV) (hx : ∀ σ, PassesAt CX X σ (E σ)) (ha : PA X (e :: es) t) (hkw : PK X kws tk)
    (hall : (backToKw pos (keywordEach kws X.env)).all (·.1.isSome) = true := by rfl) (hks : (backToKw pos (keywordEach kws X.env)).filterMap (·.1) = ks := by rfl)
    (hst : starEach (e :: es) X.env = (false, eval e X.env) :: starEach es X.env := by rfl) (hpl : ((backTo pos (starEach (e :: es) X.env)).any (·.1) || (backToKw pos (keywordEach kws X.env)).any (·.1.isNone)) = false := by rfl)
    (ht : eval (.Call (.Attribute o m apos) (e :: es) kws pos) X.env = (do
      let ov ← eval o X.env
      standAt apos.atName
      let (f, first) ← holding [ov] (getMethod ov m pl)
      callWith pos f first (backTo pos (starEach (e :: es) X.env)) (backToKw pos (keywordEach kws X.env))) := by rfl) :
    PE X (.Call (.Attribute o m apos) (e :: es) kws pos) (tMethKS C m sp gV E ta t tk) := by
  refine ⟨fun pins s σ H Q I h => ?_⟩
  refine PySem.W.methodCall_KW (pl := pl) (thn (he.run pins s σ H _ I h) fun u s1 ⟨x, H1, I1, rx, a, dx, fs, ex, ea, l, q⟩ => ?_) ht
  subst ex
  obtain rfl : u = Value.ref a := rx
  refine getmeth_ok I1 ea c hm l ?_
  refine PySem.W.callWith_KW (first := [.ref a]) (h₀ := X.base) I.ok.mod.kin hm.kp hall (thn (ha.run pos pins s1 σ H1 _ I1 q) fun us s2 ⟨vs, H2, I2, r, q2⟩ =>
    thn (hkw.run pos pins s2 σ H2 _ I2 q2) fun ws s3 ⟨zs, H3, I3, rz, q3⟩ => ⟨I3.kIn, ?_⟩) hpl hst
  rw [hks]
  exact run_keyS (us := .ref a :: us) (vs := .ref a :: vs) F hr hb (hx σ) I3 (.cons rfl r) rz q3
theorem pe_methK0S {pl : PySem.Sem Bool} (he : PE X o ta) (c : Cls X.K C) (hm : Meth X.K C m f) (F : FnOk X.prog X.w X.K X.mg X.base CX k f fd ps sp) (hr : Room k X.A) (hb : KBinds X.K fd ps ks g gV) (hx : ∀ σ, PassesAt CX X σ (E σ)) (hkw : PK X kws tk)
    (hall : (backToKw pos (keywordEach kws X.env)).all (·.1.isSome) = true := by rfl) (hks : (backToKw pos (keywordEach kws X.env)).filterMap (·.1) = ks := by rfl)
    (hpl : ((backTo pos (starEach [] X.env)).any (·.1) || (backToKw pos (keywordEach kws X.env)).any (·.1.isNone)) = false := by rfl)
    (ht : eval (.Call (.Attribute o m apos) [] kws pos) X.env = (do
      let ov ← eval o X.env
      standAt apos.atName
      let (f, first) ← holding [ov] (getMethod ov m pl)
      callWith pos f first (backTo pos (starEach [] X.env)) (backToKw pos (keywordEach kws X.env))) := by rfl) :
    PE X (.Call (.Attribute o m apos) [] kws pos) (tMethKS C m sp gV E ta tNil tk) := by
  refine ⟨fun pins s σ H Q I h => ?_⟩
  refine PySem.W.methodCall_KW (pl := pl) (thn (he.run pins s σ H _ I h) fun u s1 ⟨x, H1, I1, rx, a, dx, fs, ex, ea, l, q⟩ => ?_) ht
  subst ex
  obtain rfl : u = Value.ref a := rx
  refine getmeth_ok I1 ea c hm l ?_
  refine PySem.W.callWith_KW0 (first := [.ref a]) (h₀ := X.base) I.ok.mod.kin hm.kp hall (thn (hkw.run pos pins s1 σ H1 _ I1 q) fun ws s3 ⟨zs, H3, I3, rz, q3⟩ => ⟨I3.kIn, ?_⟩) hpl
  rw [hks]
  exact run_keyS (us := [.ref a]) (vs := [.ref a]) F hr hb (hx σ) I3 (.cons rfl .nil) rz q3
end
/-! ### in the evaluator -/
section
variable {K : PySem.W.Frag} {f : Fx} {W : WX} {G G2 H H2 : Hp} {n m : Nat} {σ : St} {e : Env} {tmp : List (Addr × List En)}
theorem zip_look {nm : Str} : ∀ {ns : List Str} {vs : List V} {ts : List Tr} {t : Tr}, TpAll K G vs ts → ns.length = vs.length → (ns.zip ts).lookup nm = some t → ∃ v, (ns.zip vs).lookup nm = some v ∧ Tp K G v t
  | [], _, _, _, _, _, h => by cases h
  | a :: ns, _, _, _, .nil, l, _ => by cases l
  | a :: ns, v :: vs, t0 :: ts, t, .cons tp al, l, h => by
    rw [List.zip_cons_cons, List.lookup_cons] at h
    rw [List.zip_cons_cons, List.lookup_cons]
    cases q : nm == a with
    | true =>
      rw [q] at h
      cases h
      exact ⟨v, rfl, tp⟩
    | false =>
      rw [q] at h
      exact zip_look al (by simpa using l) h
theorem zip_none {nm : Str} : ∀ {ns : List Str} {vs : List V}, ns.contains nm = false → (ns.zip vs).lookup nm = none
  | [], _, _ => by simp
  | a :: ns, [], _ => by simp
  | a :: ns, v :: vs, h => by
    rw [List.zip_cons_cons, List.lookup_cons]
    rw [List.contains_cons] at h
    obtain ⟨h1, h2⟩ := Bool.or_eq_false_iff.mp h
    rw [h1]
    exact zip_none h2
def eAttr (C : Addr) (nm : Str) (a : Env → M (Env × Dv)) : Env → M (Env × Dv) := fun e => (a e).bind fun p => match p.2 with
  | .t (.obj C' ns ts) => if C' = C then match (ns.zip ts).lookup nm with
      | some v => .ret (p.1, .t v)
      | none => .bad
    else .bad
  | _ => .bad
theorem se_attr {C : Addr} {nm : Str} {ta : TE} {a : Env → M (Env × Dv)} (c : Cls K C) (hn : NoAttr K C nm) (ha : SE K f W ta a) : SE K f W (tFld K ta nm) (eAttr C nm a) := fun n tmp e G H σ Q X s xw w => by
  refine ha n tmp e G H σ _ X s xw (wp_imp (wpb w) fun n1 p w1 v G1 H1 x1 sv => ?_)
  obtain ⟨e1, d⟩ := p
  dsimp only at w1 sv
  split at w1
  · rename_i C' ns ts
    split at w1
    · rename_i hC
      subst hC
      split at w1
      · rename_i t q
        obtain ⟨tp, s1⟩ := sv_t_iff.mp sv
        cases tp with
        | obj hG hl al =>
          obtain ⟨u, q1, q2⟩ := zip_look al hl q
          exact ⟨_, _, _, _, u, rfl, s1.ex _ _ hG, c, hn, q1, w1 u G1 H1 x1 (sv_t s1 q2)⟩
      · exact w1.elim
    · exact w1.elim
  · exact w1.elim
/-- o.m(..), g tells the order -/
def evMethK (C : Addr) (mt : Str) (F : List Slot → M Rv) (k : Nat) (g : List Dv → List Dv → List Dv) (o : Env → M (Env × Dv)) (a b : Env → M (Env × List Dv)) : Env → M (Env × Dv) := fun e => (o e).bind fun p => match p.2 with
  | .t (.obj C' ns ts) => if C' = C ∧ ns.contains mt = false then (a p.1).bind fun p1 => (b p1.1).bind fun p2 => match slotsOf p2.1 (g (.t (.obj C' ns ts) :: p1.2) p2.2) with
      | none => .bad
      | some (e2, ss) => if ss.length = k then (reRz p2.1 (F ss)).bind (retD p2.1 e2) else .bad
    else .bad
  | _ => .bad
theorem se_methK {C : Addr} {mt : Str} {F : List Slot → M Rv} {k : Nat} {ta : TE} {t tk : TA} {gV : List V → List V → List V} {gD : List Dv → List Dv → List Dv} {o : Env → M (Env × Dv)} {a b : Env → M (Env × List Dv)} (hg : KG gV gD) (ho : SE K f W ta o) (ha : SA K f W t a) (hb : SA K f W tk b) :
    SE K f W (tMethKS C mt (spE K F k) gV (WE W) ta t tk) (evMethK C mt F k gD o a b) := fun n tmp e G H σ Q X s xw w => by
  refine ho n tmp e G H σ _ X s xw (wp_imp (wpb w) fun n0 p0 w0 v0 G0 H0 x0 sv0 => ?_)
  obtain ⟨e0, d0⟩ := p0
  dsimp only at w0 sv0
  split at w0
  · rename_i C' ns ts
    split at w0
    · rename_i hC
      obtain ⟨hC, hm⟩ := hC
      subst hC
      obtain ⟨tp, s0⟩ := sv_t_iff.mp sv0
      have tp0 := tp
      cases tp with
      | obj hG hl al =>
        rename_i a0 dx0 vs0
        refine ⟨_, _, _, rfl, s0.ex _ _ hG, zip_none hm, ?_⟩
        refine ha n0 tmp e0 G0 H0 σ _ X s0 xw (wp_imp (wpb w0) fun n1 p w1 vs G1 H1 x1 svs => ?_)
        obtain ⟨tm, dk, s1⟩ := svs
        refine hb n1 (tm ++ tmp) p.1 G1 H1 σ _ X s1 xw (wp_imp (wpb w1) fun n2 p2 w2 zs G2 H2 x2 svs2 => ?_)
        obtain ⟨tm2, dk2, o2, re2, j2⟩ := svs2
        obtain ⟨tm3, dk3, sp⟩ := hg K f G2 σ _ _ _ _ _ _ ((DsOk.t (tp0.mono x1) dk).mono x2) dk2
        have svs3 : SVs K f n2 tmp p2.1 G2 H2 σ (gD (.t (.obj C' ns ts) :: p.2) p2.2) (gV (.ref a0 :: vs) zs) := by
          refine ⟨tm3, dk3, o2, re2, ?_⟩
          have h1 : (tm ++ tm2 ++ (tmp ++ o2)).Perm (tm2 ++ (tm ++ tmp) ++ o2) := by
            have : (tm ++ tm2 ++ tmp).Perm (tm2 ++ (tm ++ tmp)) := by
              rw [← List.append_assoc]
              exact List.Perm.append_right tmp List.perm_append_comm
            rw [← List.append_assoc]
            exact List.Perm.append_right o2 this
          obtain ⟨l, pl, sl⟩ := sp
          refine jperm (jsub (jperm j2 h1.symm) (r' := l ++ (tmp ++ o2)) (List.Sublist.append_right sl _)) ?_
          rw [List.append_assoc]
          exact List.Perm.append_right _ pl
        cases q : slotsOf p2.1 (gD (.t (.obj C' ns ts) :: p.2) p2.2) with
        | none => simp only [q] at w2; exact w2.elim
        | some z =>
          obtain ⟨e2, ss⟩ := z
          simp only [q] at w2
          split at w2
          · rename_i hk
            exact call_ok svs3 q hk xw (wp_imp w2 fun n' r hr v G' H' x => hr v G' H' (((x0.trans x1).trans x2).trans x))
          · exact w2.elim
    · exact w0.elim
  · exact w0.elim
end
end Ev

namespace Ev
open PySem L2 Evl Dl
/-! ### an object that is being made -/
def prot (H0 : Hp) (C x dx : Addr) (fs : List (Str × V)) : Hp := upd (upd H0 dx (.own x)) x (.ins C dx fs)
section
variable {K : PySem.W.Frag} {W : WX} {pu : Option (Addr × Addr)} {G0 H0 G H : Hp} {C x dx : Addr} {fs fs2 : List (Str × V)} {n : Nat} {own : List (Addr × List En)} {σ : St} {e : Env}
theorem prot_x : prot H0 C x dx fs x = some (.ins C dx fs) := upd_same
theorem prot_ne {b : Addr} (h1 : b ≠ x) (h2 : b ≠ dx) : prot H0 C x dx fs b = H0 b := by
  unfold prot
  rw [upd_ne h1, upd_ne h2]
theorem prot_same {b : Addr} (h1 : b ≠ x) : prot H0 C x dx fs b = prot H0 C x dx fs2 b := by
  unfold prot
  rw [upd_ne h1, upd_ne h1]
theorem pu_ne (hx : H0 x = none) (hp : ∀ p c, pu = some (p, c) → H0 p ≠ none ∧ H0 c ≠ none) : ¬ isPu ⟨pu, prot H0 C x dx fs, G0⟩ x := by
  rintro ⟨p, c, e1, e2⟩
  obtain ⟨h1, h2⟩ := hp p c e1
  rcases e2 with e2 | e2
  · rw [← e2] at h1; exact h1 hx
  · rw [← e2] at h2; exact h2 hx
theorem jAtX (hx : H0 x = none) (hp : ∀ p c, pu = some (p, c) → H0 p ≠ none ∧ H0 c ≠ none) (j : J K ⟨pu, prot H0 C x dx fs, G0⟩ ⟨n, own⟩ G H) : H x = some (.ins C dx fs) := j.fr x _ (pu_ne hx hp) prot_x
theorem jNoX (hg : G0 x = none) (j : J K ⟨pu, prot H0 C x dx fs, G0⟩ ⟨n, own⟩ G H) : G x = none := by
  cases q : G x with
  | none => rfl
  | some ob =>
    have this : prot H0 C x dx fs x = none := j.fs x (by rw [q]; simp) hg
    rw [prot_x] at this
    cases this
theorem jReprot (hx : H0 x = none) (hg : G0 x = none) (hp : ∀ p c, pu = some (p, c) → H0 p ≠ none ∧ H0 c ≠ none) (j : J K ⟨pu, prot H0 C x dx fs, G0⟩ ⟨n, own⟩ G H) : J K ⟨pu, prot H0 C x dx fs2, G0⟩ ⟨n, own⟩ G (upd H x (.ins C dx fs2)) := by
  have gx := jNoX hg j
  have ax := jAtX hx hp j
  refine ⟨fun b ob h => ?_, fun D es m => ?_, j.nd, fun p c hpc => ?_, fun b ob h1 h2 => ?_, j.g0, fun b h1 h2 => ?_, j.tf⟩
  · by_cases hb : b = x
    · subst hb; rw [gx] at h; cases h
    · rw [upd_ne hb]; exact j.ex b ob h
  · obtain ⟨a1, a2, a3, xs, a4, a5⟩ := j.own D es m
    have hD : D ≠ x := fun z => by
      subst z
      rw [ax] at a4
      cases a4
    exact ⟨a1, (prot_same hD).symm.trans a2, a3, xs, by rw [upd_ne hD]; exact a4, a5⟩
  · obtain ⟨a1, a2, a3, a4, a5⟩ := j.pu p c hpc
    obtain ⟨h1, h2⟩ := hp p c hpc
    have np : p ≠ x := fun z => by subst z; exact h1 hx
    have nc : c ≠ x := fun z => by subst z; exact h2 hx
    refine ⟨a1, a2, fun z => a3 ((prot_same np).trans z), fun z => a4 ((prot_same nc).trans z), ?_⟩
    obtain ⟨cs, t, q1, q2, q3⟩ := a5
    exact ⟨cs, t, by rw [upd_ne np]; exact q1, by rw [upd_ne nc]; exact q2, q3⟩
  · by_cases hb : b = x
    · subst hb
      have h2' : prot H0 C b dx fs2 b = some ob := h2
      rw [prot_x] at h2'
      rw [← h2']
      exact upd_same
    · rw [upd_ne hb]
      exact j.fr b ob h1 ((prot_same hb).trans h2)
  · have := j.fs b h1 h2
    by_cases hb : b = x
    · subst hb
      exact absurd gx h1
    · exact (prot_same hb).symm.trans this
theorem jUnprot (hx : H0 x = none) (hd : H0 dx = none) (hp : ∀ p c, pu = some (p, c) → H0 p ≠ none ∧ H0 c ≠ none) (j : J K ⟨pu, prot H0 C x dx fs, G0⟩ ⟨n, own⟩ G H) : J K ⟨pu, H0, G0⟩ ⟨n, own⟩ G H := by
  have sub : ∀ b ob, H0 b = some ob → prot H0 C x dx fs b = some ob := fun b ob h => by
    have h1 : b ≠ x := fun z => by subst z; rw [hx] at h; cases h
    have h2 : b ≠ dx := fun z => by subst z; rw [hd] at h; cases h
    rw [prot_ne h1 h2]
    exact h
  have non : ∀ b, prot H0 C x dx fs b = none → H0 b = none := fun b h => by
    cases q : H0 b with
    | none => rfl
    | some ob =>
      rw [sub b ob q] at h
      cases h
  refine ⟨j.ex, fun D es m => ?_, j.nd, fun p c hpc => ?_, fun b ob h1 h2 => j.fr b ob h1 (sub b ob h2), j.g0, fun b h1 h2 => non b (j.fs b h1 h2), j.tf⟩
  · obtain ⟨a1, a2, a3, xs, a4, a5⟩ := j.own D es m
    exact ⟨a1, non D a2, a3, xs, a4, a5⟩
  · obtain ⟨a1, a2, a3, a4, a5⟩ := j.pu p c hpc
    obtain ⟨h1, h2⟩ := hp p c hpc
    exact ⟨a1, a2, h1, h2, a5⟩
theorem jProt0 (hx : H x = none) (hd : H dx = none) (hne : dx ≠ x) (j : J K ⟨pu, H, G⟩ ⟨n, []⟩ G H) : J K ⟨pu, prot H C x dx [], G⟩ ⟨n, []⟩ G (prot H C x dx []) := by
  have sub : ∀ b ob, H b = some ob → prot H C x dx [] b = some ob := fun b ob h => by
    have h1 : b ≠ x := fun z => by subst z; rw [hx] at h; cases h
    have h2 : b ≠ dx := fun z => by subst z; rw [hd] at h; cases h
    rw [prot_ne h1 h2]
    exact h
  refine ⟨fun b ob h => sub b ob (j.ex b ob h), (fun D es m => by cases m), List.nodup_nil, fun p c hpc => ?_, fun b ob _ h => h, Ex.refl G, fun b h1 h2 => absurd h2 h1, j.tf⟩
  obtain ⟨a1, a2, a3, a4, cs, t, q1, q2, q3⟩ := j.pu p c hpc
  exact ⟨a1, a2, (fun z => by have z' : prot H C x dx [] p = none := z; rw [sub p _ q1] at z'; cases z'), (fun z => by have z' : prot H C x dx [] c = none := z; rw [sub c _ q2] at z'; cases z'), cs, t, sub p _ q1, sub c _ q2, q3⟩
end
/-! ### __init__ -/
abbrev IM := Env → List Str → List Tr → M (List Str × List Tr)
def iEnd : IM := fun _ ns ts => .ret (ns, ts)
def iSet (i : Nat) (a : Env → M (Env × Dv)) (r : IM) : IM := fun e ns ts => if i = 0 then .bad else (a e).bind fun p => match storeD p.1 i p.2 with
  | some e' => r e' ns ts
  | none => .bad
def iFld (nm : Str) (a : Env → M (Env × Dv)) (r : IM) : IM := fun e ns ts => (a e).bind fun p => match forceD p.1 p.2 with
  | some (e2, t) => if ns.contains nm = false ∧ ns.length < 900 then r e2 (ns ++ [nm]) (ts ++ [t]) else .bad
  | none => .bad
def SInit (K : PySem.W.Frag) (W : WX) (C x dx : Addr) (tb : TS) (m : IM) : Prop :=
  ∀ (pu : Option (Addr × Addr)) (G0 H0 : Hp) n e G H σ (D : Ends) (X : Nat → Env → Addr → Prop) ns ts vs, H0 x = none → H0 dx = none → dx ≠ x → G0 x = none → (∀ p c, pu = some (p, c) → H0 p ≠ none ∧ H0 c ≠ none) → σ[0]? = some (some (.ref x)) →
    Sem K ⟨pu, prot H0 C x dx (ns.zip vs), G0⟩ n [] e G H σ → TpAll K G vs ts → ns.length = vs.length → (∀ fs n tmp e G H σ C' d, Sem K ⟨pu, prot H0 C x dx fs, G0⟩ n tmp e G H σ → X n e C' → XO G C' d → W (.ref (xCls C')) d σ H) →
    wp (m e ns ts) n (fun n' r => ∀ σ' G' H' vs', Ex G G' → J K ⟨pu, prot H0 C x dx (r.1.zip vs'), G0⟩ ⟨n', []⟩ G' H' → TpAll K G' vs' r.2 → r.1.length = vs'.length → D.nx σ' H') X → tb D σ H
theorem putF_new {nm : Str} {v : V} : ∀ {ns : List Str} {vs : List V}, ns.contains nm = false → ns.length = vs.length → putF nm v (ns.zip vs) = (ns ++ [nm]).zip (vs ++ [v])
  | [], [], _, _ => rfl
  | a :: ns, u :: vs, h, l => by
    rw [List.contains_cons] at h
    obtain ⟨h1, h2⟩ := Bool.or_eq_false_iff.mp h
    have hne : ¬ a = nm := fun z => by subst z; simp at h1
    show (if a = nm then (a, v) :: ns.zip vs else (a, u) :: putF nm v (ns.zip vs)) = _
    rw [if_neg hne, putF_new h2 (by simpa using l)]
    rfl
  | [], _ :: _, _, l => by cases l
  | _ :: _, [], _, l => by cases l
section
variable {K : PySem.W.Frag} {W : WX} {C x dx : Addr}
theorem sem_reprot {pu : Option (Addr × Addr)} {G0 H0 G H : Hp} {fs fs2 : List (Str × V)} {n : Nat} {σ : St} {e : Env} (hx : H0 x = none) (hg : G0 x = none) (hp : ∀ p c, pu = some (p, c) → H0 p ≠ none ∧ H0 c ≠ none) (s : Sem K ⟨pu, prot H0 C x dx fs, G0⟩ n [] e G H σ) : Sem K ⟨pu, prot H0 C x dx fs2, G0⟩ n [] e G (upd H x (.ins C dx fs2)) σ := by
  obtain ⟨o, re, j⟩ := s
  exact ⟨o, re_f (f := ⟨pu, prot H0 C x dx fs, G0⟩) (f' := ⟨pu, prot H0 C x dx fs2, G0⟩) rfl re, jReprot hx hg hp j⟩
theorem si_fld {nm : Str} {tv : TE} {tr : TS} {a : Env → M (Env × Dv)} {r : IM} (c : Cls K C) (hn : NoAttr K C nm) (ha : ∀ f, SE K f W tv a) (hr : SInit K W C x dx tr r) : SInit K W C x dx (tSeq (sFld K (tVar 0) tv nm) tr) (iFld nm a r) := fun pu G0 H0 n e G H σ D X ns ts vs hx hd hne hg hp hσ s al hl hX w => by
  refine ha _ n [] e G H σ _ X s (fun n tmp e G H σ C' d s' h xo => hX _ n tmp e G H σ C' d s' h xo) (wp_imp (wpb w) fun n1 p w1 v G1 H1 x1 sv => ?_)
  cases q : forceD p.1 p.2 with
  | none => simp only [q] at w1; exact w1.elim
  | some z =>
    obtain ⟨e2, t⟩ := z
    simp only [q] at w1
    split at w1
    · rename_i hc
      obtain ⟨G2, x2, s2, tp⟩ := force_ok sv q
      have hax : H1 x = some (.ins C dx (ns.zip vs)) := by
        obtain ⟨o, re, j⟩ := s2
        exact jAtX hx hp j
      refine ⟨_, hσ, x, C, dx, ns.zip vs, rfl, hax, c, hn, by rw [List.length_zip]; omega, ?_⟩
      have s3 := sem_reprot (fs2 := (ns ++ [nm]).zip (vs ++ [v])) hx hg hp s2
      rw [putF_new hc.1 hl]
      exact hr pu G0 H0 n1 e2 G2 _ σ D X (ns ++ [nm]) (ts ++ [t]) (vs ++ [v]) hx hd hne hg hp hσ s3 ((al.mono (x1.trans x2)).cat (.cons tp .nil)) (by simp [hl]) hX (wp_imp w1 fun n' rr hh σ' G' H' vs' e' => hh σ' G' H' vs' ((x1.trans x2).trans e'))
    · exact w1.elim
theorem si_fldL {nm : Str} {tv : TE} {a : Env → M (Env × Dv)} (c : Cls K C) (hn : NoAttr K C nm) (ha : ∀ f, SE K f W tv a) : SInit K W C x dx (sFld K (tVar 0) tv nm) (iFld nm a iEnd) := fun pu G0 H0 n e G H σ D X ns ts vs hx hd hne hg hp hσ s al hl hX w => by
  refine ha _ n [] e G H σ _ X s (fun n tmp e G H σ C' d s' h xo => hX _ n tmp e G H σ C' d s' h xo) (wp_imp (wpb w) fun n1 p w1 v G1 H1 x1 sv => ?_)
  cases q : forceD p.1 p.2 with
  | none => simp only [q] at w1; exact w1.elim
  | some z =>
    obtain ⟨e2, t⟩ := z
    simp only [q] at w1
    split at w1
    · rename_i hc
      obtain ⟨G2, x2, s2, tp⟩ := force_ok sv q
      have hax : H1 x = some (.ins C dx (ns.zip vs)) := by
        obtain ⟨o, re, j⟩ := s2
        exact jAtX hx hp j
      refine ⟨_, hσ, x, C, dx, ns.zip vs, rfl, hax, c, hn, by rw [List.length_zip]; omega, ?_⟩
      obtain ⟨o, re, j⟩ := sem_reprot (fs2 := (ns ++ [nm]).zip (vs ++ [v])) hx hg hp s2
      rw [putF_new hc.1 hl]
      exact w1 σ G2 _ (vs ++ [v]) (x1.trans x2) (jsub j (List.nil_sublist _)) ((al.mono (x1.trans x2)).cat (.cons tp .nil)) (by simp [hl])
    · exact w1.elim
theorem si_set {i : Nat} {te : TE} {tr : TS} {a : Env → M (Env × Dv)} {r : IM} (ha : ∀ f, SE K f W te a) (hr : SInit K W C x dx tr r) : SInit K W C x dx (tSeq (tAsg te (gName i)) tr) (iSet i a r) := fun pu G0 H0 n e G H σ D X ns ts vs hx hd hne hg hp hσ s al hl hX w => by
  unfold iSet at w
  split at w
  · exact w.elim
  · rename_i hi
    refine ha _ n [] e G H σ _ X s (fun n tmp e G H σ C' d s' h xo => hX _ n tmp e G H σ C' d s' h xo) (wp_imp (wpb w) fun n1 p w1 v G1 H1 x1 sv => ?_)
    cases q : storeD p.1 i p.2 with
    | none => simp only [q] at w1; exact w1.elim
    | some e' =>
      simp only [q] at w1
      obtain ⟨G2, x2, s2⟩ := store_ok' sv q
      exact hr pu G0 H0 n1 e' G2 H1 _ D X ns ts vs hx hd hne hg hp (by rw [List.getElem?_set_ne (fun z => hi z)]; exact hσ) s2 (al.mono (x1.trans x2)) hl hX (wp_imp w1 fun n' rr hh σ' G' H' vs' e' => hh σ' G' H' vs' ((x1.trans x2).trans e'))
end
/-! ### making -/
def spI (K : PySem.W.Frag) (C : Addr) (F : List Slot → M (List Str × List Tr)) (k : Nat) : Sp := fun vs H Q E => vs.length = k ∧ ∃ x dx args H1 pu n G ss, vs = .ref x :: args ∧ H1 x = none ∧ H1 dx = none ∧ dx ≠ x ∧ H = upd (upd H1 dx (.own x)) x (.ins C dx []) ∧ J K ⟨pu, H1, G⟩ ⟨n, []⟩ G H1 ∧ AOk K pu G args ss ∧
  wp (F ss) n (fun n' r => ∀ G2 H2 vs2, J K ⟨pu, H1, G⟩ ⟨n', []⟩ G2 H2 → H2 x = some (.ins C dx (r.1.zip vs2)) → TpAll K G2 vs2 r.2 → r.1.length = vs2.length → G2 x = none → Q .non H2) (fun n' _ C' => ∀ G2 H2 d, J K ⟨pu, H1, G⟩ ⟨n', []⟩ G2 H2 → XO G2 C' d → E (.ref (xCls C')) d H2)
theorem spI_len {K : PySem.W.Frag} {C : Addr} {F : List Slot → M (List Str × List Tr)} {k : Nat} (vs : List V) (H : Hp) (Q : VK) (E : XK) (h : spI K C F k vs H Q E) : vs.length = k := h.1
def fnOfI (N : Nat) (body : IM) : List Slot → M (List Str × List Tr) := fun ss => body (.no :: (ss ++ List.replicate (N - 1 - ss.length) .no)) [] []
section
variable {K : PySem.W.Frag} {f : Fx} {W : WX}
theorem run_init {C : Addr} {N : List Str} {k : Nat} {body : IM} {t : TS} {Q : VK} {E : XK} {vs : List V} {H : Hp} (h : spI K C (fnOfI N.length body) k vs H Q E) (hb : ∀ x dx, SInit K (fun cls d _ H' => E cls d H') C x dx t body) : t { nx := fun _ H' => Q .non H', rt := Q } (start N vs) H := by
  obtain ⟨_, x, dx, args, H1, pu, n, G, ss, rfl, hx, hd, hne, rfl, j, ak, w⟩ := h
  have hg : G x = none := by
    cases q : G x with
    | none => rfl
    | some ob =>
      have := j.ex x ob q
      rw [hx] at this
      cases this
  have hp : ∀ p c, pu = some (p, c) → H1 p ≠ none ∧ H1 c ≠ none := fun p c e => ⟨(j.pu p c e).2.2.1, (j.pu p c e).2.2.2.1⟩
  have j0 := jProt0 (C := C) hx hd hne j
  have s0 : Sem K ⟨pu, prot H1 C x dx [], G⟩ n [] (.no :: (ss ++ List.replicate (N.length - 1 - ss.length) .no)) G (prot H1 C x dx []) (start N (.ref x :: args)) := by
    refine ⟨[], ?_, j0⟩
    unfold L2.start
    rw [List.length_cons, ak.len, show N.length - (ss.length + 1) = N.length - 1 - ss.length by omega]
    exact .no (re_start (H := prot H1 C x dx []) ak _)
  refine hb x dx pu G H1 n _ G (prot H1 C x dx []) _ _ (fun n' _ C' => ∀ G2 H2 d, J K ⟨pu, H1, G⟩ ⟨n', []⟩ G2 H2 → XO G2 C' d → E (.ref (xCls C')) d H2) [] [] [] hx hd hne hg hp rfl s0 .nil rfl (fun fs n' tmp e' G2 H2 σ2 C' d s2 xx xo => ?_) (wp_imp w fun n' r w' σ' G2 H2 vs2 _ j2 al hl => ?_)
  · obtain ⟨o, _, j2⟩ := s2
    exact xx G2 H2 d (jUnprot hx hd hp (jsub j2 (List.nil_sublist _))) xo
  · exact w' G2 H2 vs2 (jUnprot hx hd hp j2) (jAtX hx hp j2) al hl (jNoX hg j2)
/-- C(..), g tells the order of what stands behind self -/
def evMakeK (C : Addr) (F : List Slot → M (List Str × List Tr)) (k : Nat) (g : List Dv → List Dv → List Dv) (a b : Env → M (Env × List Dv)) : Env → M (Env × Dv) := fun e => (a e).bind fun p => (b p.1).bind fun p2 => match slotsOf p2.1 (g p.2 p2.2) with
  | none => .bad
  | some (e2, ss) => if ss.length + 1 = k then (reRz p2.1 (F ss)).bind (fun r => .ret (e2, .t (.obj C r.1 r.2))) else .bad
theorem jPutG {pu : Option (Addr × Addr)} {H0 G0 G H : Hp} {x : Addr} {n : Nat} {own : List (Addr × List En)} {C dx : Addr} {fs : List (Str × V)} (j : J K ⟨pu, H0, G0⟩ ⟨n, own⟩ G H) (hH : H x = some (.ins C dx fs)) (hG : G x = none) (hx : H0 x = none) : J K ⟨pu, H0, G0⟩ ⟨n, own⟩ (upd G x (.ins C dx fs)) H := by
  refine ⟨fun b ob h => ?_, fun D es m => ?_, j.nd, fun p c hpc => ?_, j.fr, j.g0.trans (Ex.new hG), fun b h1 h2 => ?_, j.tf.upd trivial⟩
  · by_cases hb : b = x
    · subst hb; rw [upd_same] at h; cases h; exact hH
    · rw [upd_ne hb] at h; exact j.ex b ob h
  · obtain ⟨a1, a2, a3, xs, a4, a5⟩ := j.own D es m
    have hD : D ≠ x := fun z => by
      subst z
      rw [hH] at a4
      cases a4
    exact ⟨by rw [upd_ne hD]; exact a1, a2, a3, xs, a4, a5.mono (Ex.new hG)⟩
  · obtain ⟨a1, a2, a3, a4, a5⟩ := j.pu p c hpc
    have np : p ≠ x := fun z => by subst z; exact a3 hx
    have nc : c ≠ x := fun z => by subst z; exact a4 hx
    exact ⟨by rw [upd_ne np]; exact a1, by rw [upd_ne nc]; exact a2, a3, a4, a5⟩
  · by_cases hb : b = x
    · subst hb; exact hx
    · rw [upd_ne hb] at h1; exact j.fs b h1 h2
theorem se_makeK {C : Addr} {F : List Slot → M (List Str × List Tr)} {k : Nat} {t tk : TA} {gV gV' : List V → List V → List V} {gD : List Dv → List Dv → List Dv} {a b : Env → M (Env × List Dv)} (hs : ∀ y vs zs, (gV' vs zs).length + 1 = k → gV (y :: vs) zs = y :: gV' vs zs) (hg : KG gV' gD) (ha : SA K f W t a) (hb : SA K f W tk b) :
    SE K f W (tMakeKS C (spI K C F k) gV (WE W) t tk) (evMakeK C F k gD a b) := fun n tmp e G H σ Q X s xw w => by
  refine ha n tmp e G H σ _ X s xw (wp_imp (wpb w) fun n1 p w1 vs G1 H1 x1 svs => ?_)
  obtain ⟨tm, dk, s1⟩ := svs
  refine hb n1 (tm ++ tmp) p.1 G1 H1 σ _ X s1 xw (wp_imp (wpb w1) fun n2 p2 w2 zs G2 H2 x2 svs2 => ?_)
  obtain ⟨tm2, dk2, o2, re2, j2⟩ := svs2
  obtain ⟨tm3, dk3, sp⟩ := hg K f G2 σ _ _ _ _ _ _ (dk.mono x2) dk2
  have svs3 : SVs K f n2 tmp p2.1 G2 H2 σ (gD p.2 p2.2) (gV' vs zs) := by
    refine ⟨tm3, dk3, o2, re2, ?_⟩
    have h1 : (tm ++ tm2 ++ (tmp ++ o2)).Perm (tm2 ++ (tm ++ tmp) ++ o2) := by
      have : (tm ++ tm2 ++ tmp).Perm (tm2 ++ (tm ++ tmp)) := by
        rw [← List.append_assoc]
        exact List.Perm.append_right tmp List.perm_append_comm
      rw [← List.append_assoc]
      exact List.Perm.append_right o2 this
    obtain ⟨l, pl, sl⟩ := sp
    refine jperm (jsub (jperm j2 h1.symm) (r' := l ++ (tmp ++ o2)) (List.Sublist.append_right sl _)) ?_
    rw [List.append_assoc]
    exact List.Perm.append_right _ pl
  cases q : slotsOf p2.1 (gD p.2 p2.2) with
  | none => simp only [q] at w2; exact w2.elim
  | some z =>
    obtain ⟨e2, ss⟩ := z
    simp only [q] at w2
    split at w2
    · rename_i hk
      intro x dx hx hd hne
      obtain ⟨G3, x3, s3, ak⟩ := slots_ok svs3 q
      obtain ⟨o3, re3, j3⟩ := s3
      obtain ⟨tmq, dkq, oq, req, jq⟩ := svs3
      rw [hs _ _ _ (by rw [ak.len]; exact hk)]
      refine ⟨by rw [List.length_cons, ak.len]; exact hk, x, dx, gV' vs zs, H2, f.pu, n2, G3, ss, rfl, hx, hd, hne, rfl, J.enter j3, ak, ?_⟩
      refine wp_mono (fun n' r hr => ?_) (fun n' e' C' hx' => ?_) (wp_reRz.mp (wpb w2))
      · intro G4 H4 vs4 j4 hH al hl hG
        refine ⟨rfl, ?_⟩
        have j5 := jPutG j4 hH hG hx
        have e5 : Ex G4 (upd G4 x (.ins C dx (r.1.zip vs4))) := Ex.new hG
        have hr' : ∀ (v : V) (G' H' : Hp), Ex G G' → SV K f n' tmp e2 G' H' σ (.t (.obj C r.1 r.2)) v → Q v H' := hr
        exact hr' (.ref x) _ H4 (((x1.trans x2).trans x3).trans (j4.g0.trans e5)) (sv_t ⟨o3, re3.mono (j4.g0.trans e5), J.leaveF (s := []) (r := tmp ++ o3) j3 j5⟩ (.obj upd_same hl (al.mono e5)))
      · intro G4 H4 d j4 xo
        obtain ⟨G5, x5, j5, xo5⟩ := J.adopt jq x3 j3 j4 xo
        exact xw n' (tmq ++ tmp) p2.1 G5 H4 σ C' d ⟨oq, req.mono x5, j5⟩ hx' xo5
    · exact w2.elim
end
end Ev

namespace Ev
open PySem L2 Evl Dl
/-! ### orders of arguments -/
def gA {α : Type} : List α → List α → List α := fun vs _ => vs
def gK {α : Type} : List α → List α → List α
  | [a], [b] => [a, b]
  | _, _ => []
def gK0 {α : Type} : List α → List α → List α
  | [], [b] => [b]
  | _, _ => []
theorem gK_self {α : Type} {y : α} {vs zs : List α} (h : (gK0 vs zs).length + 1 = 2) : gK (y :: vs) zs = y :: gK0 vs zs := by
  match vs, zs, h with
  | [], [b], _ => rfl
  | [], [], h => cases h
  | [], _ :: _ :: _, h => cases h
  | _ :: _, _, h => cases h
def gN {α : Type} (ds : List α) : List α → List α → List α := fun vs _ => vs ++ ds
theorem kg_A : KG gA gA := fun K f G σ ds es vs zs tm tm2 h1 h2 => ⟨tm, h1, tm, .refl _, List.sublist_append_left _ _⟩
theorem kg_K : KG gK gK := fun K f G σ ds es vs zs tm tm2 h1 h2 => by
  have l1 := h1.len
  have l2 := h2.len
  rcases ds with _ | ⟨_, _ | ⟨_, _⟩⟩ <;> rcases vs with _ | ⟨_, _ | ⟨_, _⟩⟩ <;> (try (exfalso; simp at l1; done)) <;> rcases es with _ | ⟨_, _ | ⟨_, _⟩⟩ <;> rcases zs with _ | ⟨_, _ | ⟨_, _⟩⟩ <;> (try (exfalso; simp at l2; done)) <;>
    first
    | exact ⟨[], .nil, [], .refl _, List.nil_sublist _⟩
    | exact ⟨_, h1.cat h2, _, .refl _, List.Sublist.refl _⟩
theorem kg_K0 : KG gK0 gK0 := fun K f G σ ds es vs zs tm tm2 h1 h2 => by
  have l1 := h1.len
  have l2 := h2.len
  rcases ds with _ | ⟨_, _⟩ <;> rcases vs with _ | ⟨_, _⟩ <;> (try (exfalso; simp at l1; done)) <;> rcases es with _ | ⟨_, _ | ⟨_, _⟩⟩ <;> rcases zs with _ | ⟨_, _ | ⟨_, _⟩⟩ <;> (try (exfalso; simp at l2; done)) <;>
    first
    | exact ⟨[], .nil, [], .refl _, List.nil_sublist _⟩
    | exact ⟨_, h1.cat h2, _, .refl _, List.Sublist.refl _⟩
theorem kg_non : KG (gN [.non]) (gN [.t .non]) := fun K f G σ ds es vs zs tm tm2 h1 h2 => ⟨_, h1.cat (.t .non .nil), _, .refl _, by rw [List.append_nil]; exact List.sublist_append_left _ _⟩
theorem kr_A {vs zs : List V} {us ws : List Value} (h1 : Vals vs us) (h2 : Vals zs ws) : Vals (gA vs zs) (gA us ws) := h1
theorem kr_K {vs zs : List V} {us ws : List Value} (h1 : Vals vs us) (h2 : Vals zs ws) : Vals (gK vs zs) (gK us ws) := by
  match vs, us, h1, zs, ws, h2 with
  | [a], [b], .cons p .nil, [c], [d], .cons q .nil => exact .cons p (.cons q .nil)
  | [], [], .nil, _, _, _ => exact .nil
  | [_], [_], .cons _ .nil, [], [], .nil => exact .nil
  | [_], [_], .cons _ .nil, _ :: _ :: _, _ :: _ :: _, .cons _ (.cons _ _) => exact .nil
  | _ :: _ :: _, _ :: _ :: _, .cons _ (.cons _ _), _, _, _ => exact .nil
section
variable {K : PySem.W.Frag} {x qual : Str} {params : Arguments} {body : List Stmt} {scope : Scope} {dvs : List V} {f : Addr} {fd : FuncData} {ps ks : List Str}
/-- the first n written, the rest by default -/
theorem kbindsN (F : FunD K x qual params body scope dvs [] f fd) (n : Nat) (hd : dvs ≠ []) (hl : n + dvs.length = ps.length)
    (h : ∀ (T : Addr) (kV doc pm : Value) (an : Option Addr) (cdv ct : Value) (us its : List Value), us.length = n → its.length = dvs.length →
      ∃ k, bindArgs (PySem.W.fnOf x qual params body scope (.ref T) kV doc pm an cdv ct) ⟨us, []⟩ = seqItems? (.ref T) >>= k ∧ k (some its.toArray) = pure (ps.zip (us ++ its))) : ∃ g, KBinds K fd ps [] g (gN dvs) := by
  obtain ⟨oc, od, dV, kV, doc, pm, an, cdv, ct, osl, rfl, lk, hcd, hD, hK⟩ := F.ex
  rcases hD with ⟨e, _⟩ | ⟨_, T, o, its, m, rfl, lT, oT, rT⟩
  · exact absurd e hd
  · refine ⟨fun us _ => us ++ its, fun s us ws X hlen => ?_, fun h1 h2 => h1.append rT⟩
    have e0 : us.length = n := by
      rw [List.length_append, ← rT.length] at hlen
      omega
    obtain ⟨k, e1, e2⟩ := h T kV doc pm an cdv ct us its e0 rT.length.symm
    refine BindsTo.of_looks fun M => ?_
    rw [List.zip_nil_left, e1]
    exact looks_items X lT oT (.of_pure e2)
/-- self written, one by keyword -/
theorem kbindsK {kw : Str} (F : FunD K x qual params body scope dvs [] f fd) (hd : dvs ≠ []) (hl : ps.length = 2)
    (h : ∀ (T : Addr) (kV doc pm : Value) (an : Option Addr) (cdv ct : Value) (u w : Value) (its : List Value), its.length = dvs.length →
      ∃ k, bindArgs (PySem.W.fnOf x qual params body scope (.ref T) kV doc pm an cdv ct) ⟨[u], [(kw, w)]⟩ = seqItems? (.ref T) >>= k ∧ k (some its.toArray) = pure (ps.zip [u, w])) : KBinds K fd ps [kw] gK gK := by
  obtain ⟨oc, od, dV, kV, doc, pm, an, cdv, ct, osl, rfl, lk, hcd, hD, hK⟩ := F.ex
  rcases hD with ⟨e, _⟩ | ⟨_, T, o, its, m, rfl, lT, oT, rT⟩
  · exact absurd e hd
  · refine ⟨fun s us ws X hlen => ?_, kr_K⟩
    unfold gK at hlen ⊢
    split at hlen
    · rename_i u w
      obtain ⟨k, e1, e2⟩ := h T kV doc pm an cdv ct u w its rT.length.symm
      refine BindsTo.of_looks fun M => ?_
      show PySem.W.Looks M s.heap (bindArgs _ ⟨[u], [(kw, w)]⟩) _
      rw [e1]
      exact looks_items X lT oT (.of_pure e2)
    · rw [hl] at hlen
      cases hlen
theorem kbindsF {st : Stmt} (F : Fun K x qual st f fd) (h : ∀ (kV doc pm : Value) (an : Option Addr) (cdv ct : Value) (us : List Value), us.length = ps.length → bindArgs (PySem.W.fnOf x qual (defArgs st) (defBody st) (defScope st) .none kV doc pm an cdv ct) ⟨us, []⟩ = pure (ps.zip us)) : KBinds K fd ps [] gA gA := by
  obtain ⟨oc, od, kV, doc, pm, an, cdv, ct, osl, rfl, lk, hcd⟩ := F.ex
  exact ⟨fun s us ws _ hl => by rw [List.zip_nil_left]; exact .of_eq (h kV doc pm an cdv ct us hl), kr_A⟩
end
def clsB : Stmt → List Stmt
  | .ClassDef (body := b) .. => b
  | _ => []
def clsOk (K : PySem.W.Frag) (C : Addr) : Bool := PySem.W.plainGet K C Str.empty && PySem.W.hasDictIn K C && PySem.W.plainOver K C && (PySem.W.findIn K (.ref C) "__setattr__" == some (some (.builtin "object.__setattr__")))
theorem cls_of {K : PySem.W.Frag} {C : Addr} (h : clsOk K C = true) : Cls K C := by
  unfold clsOk at h
  simp only [Bool.and_eq_true, beq_iff_eq] at h
  exact ⟨h.1.1.1, h.1.1.2, h.1.2, h.2⟩
end Ev
namespace Ev
open PySem L2 Evl Dl
section
variable {K : PySem.W.Frag} {f : Fx} {W : WX}
def gEqI : Tr → Tr → Option Tr
  | .int a, .int b => some (.bl (decide (a = b)))
  | _, _ => none
theorem os_eqI : OS K f W (R2S rEq) (o2 gEqI) := by
  refine os_2 (fun x y z q => ?_) (fun H x y z v u Q a b q k => ?_)
  · unfold gEqI at q
    split at q
    · cases q; rfl
    · cases q
  · unfold gEqI at q
    split at q
    · rename_i s1 s2
      cases q
      cases a
      cases b
      refine ⟨rfl, ?_⟩
      have e : decide (V.int s1 = V.int s2) = decide (s1 = s2) := by
        by_cases h : s1 = s2
        · subst h; simp
        · have : ¬ V.int s1 = V.int s2 := fun z => h (by cases z; rfl)
          simp [h, this]
      rw [e]
      exact k
    · cases q
end
end Ev

namespace Ev
open PySem L2 Evl Dl
/-! ### (a, ..) * k -/
def rRepTF (K : PySem.W.Frag) : R2 := fun x y H Q => ∃ l k xs, x = .ref l ∧ y = .int k ∧ SqT K H l xs ∧ xs ≠ [] ∧ 2 ≤ k ∧ k ≤ 1000 ∧ xs.length ≤ 1000 ∧
  ∀ p o, o.dict = none → H p = none → Q (.ref p) (upd H p (.frz o (.tup (List.replicate k.toNat xs).flatten)))
section
open PySem.Spec PyProof.Rows
variable {X : Cx}
theorem op_repTF : OpR X (binaryOp .Mult) (rRepTF X.K) := by
  intro pins s σ H x y v u Q I rx ry h
  obtain ⟨a, k, xs, rfl, rfl, tup, some1, k2, k1000, short, q⟩ := h
  cases rx
  obtain ⟨tok, rfl⟩ := ry
  obtain ⟨its, vals, ⟨⟨c, dd, dat, sl⟩, at_a, ec, cnt, ed⟩, _⟩ := I.tuple tup
  simp only at ec ed
  subst ec
  subst ed
  have same : its.length = xs.length := vals.length.symm
  have size : its.toArray.size = xs.length := by simp [same]
  have full : its.toArray.isEmpty = false := by
    rcases its with _ | ⟨b, bs⟩
    · exact absurd (List.eq_nil_of_length_eq_zero same.symm) some1
    · rfl
  have prod : ((its.toArray.size : Nat) : Int) * k ≤ 1000000 := by
    rw [size]
    have := Int.mul_le_mul_of_nonneg_right (show ((xs.length : Nat) : Int) ≤ 1000 by omega) (show 0 ≤ k by omega)
    omega
  have few : k.toNat * xs.length ≤ 1000000 := Nat.mul_le_mul (show k.toNat ≤ 1000 by omega) short
  have f0 : (decide (k < -(2 ^ 63)) || decide (k ≥ 2 ^ 63)) = false := by simp; omega
  have f1 : (its.toArray.isEmpty || k == 1) = false := by
    rw [full]
    simp
    omega
  have f2 : (decide (k ≤ 0) || its.toArray.isEmpty) = false := by
    rw [full]
    simp
    omega
  have f4 : Builtin.Tuple.tupleTooMany (((its.toArray.size : Nat) : Int) * k) = false := decide_eq_false (by rw [sizeLine_eq]; omega)
  have f5 : (List.foldl (fun x1 x2 => x1 ++ x2) #[] (List.replicate k.toNat its.toArray)).size ≤ sizeLine := by
    rw [size_rep, List.size_toArray, lm_len_rep_flat, same, sizeLine_eq]
    omega
  have ty : ∀ s' : Shared, _ := fun s' => typeIs_int s' k tok
  have run := tuple_mulW a its.toArray cnt dd sl k tok f0 f1 f2 (by omega) f4 f5
  refine wpAny_binaryOp_repeat_ref (T := "tuple") (U := "int") (by decide) ⟨_, at_a, rfl⟩ ty noFill_tuple_mul F.fills_int_mul F.slot_int_rmul repeat_tuple
    F.slot_int_index.lookup (call_meets F.slot_int_rmul (ty s) F.entry_int_rmul (F.args_int_rmul_2 _ _) (int_rmul_tuple k tok a its.toArray cnt dd sl)
      ⟨at_a, rfl, ⟨_, at_a, rfl⟩, call_meets F.slot_tuple_mul ⟨_, at_a, rfl⟩ F.entry_tuple_mul (F.args_tuple_mul_2 _ _) run ⟨at_a, ?_⟩⟩)
  rw [size_rep]
  refine ⟨.ref s.heap.objs.size, _, I.laid (t' := s.toks) (o := .frz _ (.tup (List.replicate k.toNat xs).flatten)) (fun b ob q => Heap.get?_push_of_some _ q) (Nat.le_refl _) ⟨Heap.get?_push_size _ rfl, ?_, _, vals.rep k.toNat, ⟨_, Heap.get?_push_size _ rfl, rfl, _, rfl⟩⟩, rfl, q _ _ rfl (I.hok.fresh (Nat.le_refl _))⟩
  rw [lm_len_rep_flat, sizeLine_eq]
  omega
end
section
variable {K : PySem.W.Frag} {f : Fx} {W : WX}
def oRepT : Env → List Dv → M (Env × Dv) := fun e ds => match ds with
  | [.t (.tup ts), .t (.int k)] => if ts ≠ [] ∧ 2 ≤ k ∧ k ≤ 1000 ∧ ts.length ≤ 1000 then .ret (e, .t (.tup (List.replicate k.toNat ts).flatten)) else .bad
  | _ => .bad
theorem tpa_repT {G : Hp} {xs : List V} {ts : List Tr} (al : TpAll K G xs ts) : ∀ k : Nat, TpAll K G (List.replicate k xs).flatten (List.replicate k ts).flatten
  | 0 => .nil
  | k + 1 => by
    rw [List.replicate_succ, List.replicate_succ, List.flatten_cons, List.flatten_cons]
    exact al.cat (tpa_repT al k)
theorem os_repT : OS K f W (R2S (rRepTF K)) oRepT := fun n tmp e G H σ ds vs Q X s xw w => by
  unfold oRepT at w
  split at w
  · rename_i ts k
    obtain ⟨v, u, rfl⟩ := vs2 s
    have sm := svs_sem s
    have t12 : Tp K G v (.tup ts) ∧ u = .int k := by
      obtain ⟨tm, dk, _⟩ := s
      cases dk with
      | t a dk =>
        cases dk with
        | t b dk =>
          cases dk
          cases b
          exact ⟨a, rfl⟩
    obtain ⟨t1, rfl⟩ := t12
    split at w
    · rename_i hc
      cases t1 with
      | tup sq al =>
        rename_i a xs
        have hne : xs ≠ [] := fun z => by
          subst z
          have := al.len
          exact hc.1 (List.eq_nil_of_length_eq_zero this.symm)
        refine ⟨_, _, rfl, a, k, xs, rfl, rfl, ?_, hne, hc.2.1, hc.2.2.1, by rw [al.len]; exact hc.2.2.2, fun p o ho hp => ?_⟩
        · first
            | exact ex_t sm.ex sq
            | exact sq
        · obtain ⟨s3, eg⟩ := sm.alloc (ob := .frz o (.tup (List.replicate k.toNat xs).flatten)) hp ho
          exact w _ _ _ eg (sv_t s3 (.tup (st_frz upd_same) ((tpa_repT al k.toNat).mono eg)))
    · exact w.elim
  · exact w.elim
end
end Ev

namespace Ev
open PySem L2 Evl Dl
section
variable {K : PySem.W.Frag} {f : Fx} {W : WX}
/-! ### three targets -/
theorem set_comm' {σ : St} {i j : Nat} {x y : Option V} (h : i ≠ j) : (σ.set i x).set j y = (σ.set j y).set i x := List.set_comm x y h
theorem wipe_set {i : Nat} {x : Option V} : ∀ {vs : List Nat} {σ : St}, i ∈ vs → L2.wipe (σ.set i x) vs = L2.wipe σ vs
  | [], _, h => by cases h
  | v :: vs, σ, h => by
    show (L2.wipe (σ.set i x) vs).set v none = (L2.wipe σ vs).set v none
    by_cases hi : i ∈ vs
    · rw [wipe_set hi]
    · have e : i = v := by
        rcases List.mem_cons.mp h with h | h
        · exact h
        · exact absurd h hi
      subst e
      have out : ∀ (us : List Nat) (τ : St), i ∉ us → L2.wipe (τ.set i x) us = (L2.wipe τ us).set i x := fun us => by
        induction us with
        | nil => exact fun τ _ => rfl
        | cons u us ih =>
          intro τ hu
          show (L2.wipe (τ.set i x) us).set u none = ((L2.wipe τ us).set u none).set i x
          rw [ih τ (fun z => hu (List.mem_cons_of_mem _ z)), List.set_comm _ _ (fun z => hu (by rw [z]; exact List.mem_cons_self ..))]
      rw [out vs σ hi, List.set_set]
theorem wipe_wipe {vs : List Nat} : ∀ {us : List Nat} {σ : St}, (∀ u ∈ us, u ∈ vs) → L2.wipe (L2.wipe σ us) vs = L2.wipe σ vs
  | [], _, _ => rfl
  | u :: us, σ, h => by
    show L2.wipe ((L2.wipe σ us).set u none) vs = _
    rw [wipe_set (h u (List.mem_cons_self ..))]
    exact wipe_wipe fun w m => h w (List.mem_cons_of_mem _ m)
theorem gw_three {i j k : Nat} : GW (gTup K 3 (gCons (gName i) (gCons (gName j) (gCons (gName k) gNil)))) [i, j, k] := fun v σ H Q h => by
  obtain ⟨a, xs, h1, h2, h3, x, r, rfl, y, r2, rfl, z, r3, rfl, rfl, h⟩ := h
  have e : ∀ x y z : Option V, L2.wipe ((((L2.wipe σ [i, j, k]).set i x).set j y).set k z) [i, j, k] = L2.wipe σ [i, j, k] := fun x y z => by
    rw [wipe_set (by simp), wipe_set (by simp), wipe_set (by simp), wipe_wipe (fun u m => m)]
  exact ⟨a, _, h1, h2, h3, x, _, rfl, y, _, rfl, z, _, rfl, rfl, e _ _ _, h (e _ _ _)⟩
/-! ### sum -/
theorem tpa_intsV {G : Hp} : ∀ {xs : List V} {ts : List Tr} {ns : List Int}, TpAll K G xs ts → intsT ts = some ns → xs = ns.map V.int
  | [], [], ns, .nil, h => by cases h; rfl
  | v :: vs, t :: ts, ns, .cons a al, h => by
    have e := intsT_eq h
    cases ns with
    | nil => cases e
    | cons i r =>
      simp only [List.map_cons, List.cons.injEq] at e
      obtain ⟨rfl, e2⟩ := e
      cases a
      rw [List.map_cons, tpa_intsV al (ns := r) (by rw [e2]; exact intsT_map r)]
def oSum : Env → List Dv → M (Env × Dv) := fun e ds => match ds with
  | [d] => match seqv e d with
    | some (false, ts) => match intsT ts with
      | some ns => .ret (e, .t (.int ns.sum))
      | none => .bad
    | _ => .bad
  | _ => .bad
theorem os_sum : OS K f W (fun _ => rSum K) oSum := fun n tmp e G H σ ds vs Q X s xw w => by
  unfold oSum at w
  split at w
  · rename_i d
    obtain ⟨v, rfl⟩ := vs1 s
    have sm := svs_sem s
    split at w
    · rename_i ts q
      obtain ⟨a, xs, rfl, sq, al⟩ := svs_seq s q
      split at w
      · rename_i ns q2
        have e2 := tpa_intsV al q2
        subst e2
        exact ⟨a, ns, rfl, sq_of sq, w _ G H (Ex.refl G) (sv_t sm (.int _))⟩
      · exact w.elim
    · exact w.elim
  · exact w.elim
/-! ### xs[::-1] -/
def eRev (a : Env → M (Env × Dv)) : Env → M (Env × Dv) := fun e => (a e).bind fun p => match seqv p.1 p.2 with
  | some (false, ts) => .ret (p.1, .fr ts.reverse)
  | _ => .bad
theorem tpa_rev {G : Hp} {xs : List V} {ts : List Tr} (al : TpAll K G xs ts) : TpAll K G xs.reverse ts.reverse := by
  induction xs generalizing ts with
  | nil => cases al; exact .nil
  | cons x xs ih =>
    cases al with
    | cons a al =>
      rw [List.reverse_cons, List.reverse_cons]
      exact (ih al).cat (.cons a .nil)
theorem se_rev {te : TE} {a : Env → M (Env × Dv)} (ha : SE K f W te a) : SE K f W (tRevL K te) (eRev a) := fun n tmp e G H σ Q X s xw w => by
  refine ha n tmp e G H σ _ X s xw (wp_imp (wpb w) fun n1 p w1 v G1 H1 x1 sv => ?_)
  split at w1
  · rename_i ts q
    obtain ⟨a, xs, rfl, sq, al⟩ := svs_seq sv q
    exact ⟨a, xs, rfl, sq_of sq, fun p hp => w1 _ G1 _ x1 ((svs_sem sv).ownNew hp (tpa_rev al))⟩
  · exact w1.elim
/-! ### tuples of ints, < -/
def gLtT : Tr → Tr → Option Tr
  | .tup xs, .tup ys => match intsT xs, intsT ys with
    | some ns, some ms => some (.bl (HT.lexLt ns ms))
    | _, _ => none
  | _, _ => none
theorem os_ltT : OS K f W (R2S (rLtT K)) (o2 gLtT) := by
  refine os_2 (fun x y z q => ?_) (fun H x y z v u Q a b q k => ?_)
  · unfold gLtT at q
    split at q
    · split at q
      · cases q; rfl
      · cases q
    · cases q
  · unfold gLtT at q
    split at q
    · split at q
      · rename_i ns ms q1 q2
        cases q
        cases a with
        | tup s1 a1 =>
          cases b with
          | tup s2 a2 =>
            have e1 := tpa_intsV a1 q1
            have e2 := tpa_intsV a2 q2
            subst e1
            subst e2
            exact ⟨_, _, ns, ms, rfl, rfl, s1, s2, k⟩
      · cases q
    · cases q
/-! ### constants that are tuples of tuples -/
def treeOk (K : PySem.W.Frag) : Nat → Value → Tr → Bool
  | 0, _, _ => false
  | _ + 1, .int j _, .int i => i == j
  | k + 1, .ref d, .tup ts => match K.lookup d with
    | some o => (o.cls == .type "tuple") && match o.data with
      | .seq its _ => decide (its.size ≤ 1000) && (its.size == ts.length) && (its.toList.zip ts).all fun p => treeOk K k p.1 p.2
      | _ => false
    | none => false
  | _, _, _ => false
theorem trees_ok {k : Nat} (ih : ∀ u t, treeOk K k u t = true → ∃ v, RelV v u ∧ ∀ G, Tp K G v t) : ∀ {us : List Value} {ts : List Tr}, us.length = ts.length → ((us.zip ts).all fun p => treeOk K k p.1 p.2) = true → ∃ vs, Vals vs us ∧ ∀ G, TpAll K G vs ts
  | [], [], _, _ => ⟨[], .nil, fun _ => .nil⟩
  | u :: us, t :: ts, l, h => by
    rw [List.zip_cons_cons, List.all_cons] at h
    obtain ⟨h1, h2⟩ := Bool.and_eq_true_iff.mp h
    obtain ⟨v, r1, r2⟩ := ih u t h1
    obtain ⟨vs, q1, q2⟩ := trees_ok ih (by simpa using l) h2
    exact ⟨v :: vs, .cons r1 q1, fun G => .cons (r2 G) (q2 G)⟩
  | [], _ :: _, l, _ => by cases l
  | _ :: _, [], l, _ => by cases l
theorem tree_ok : ∀ (k : Nat) (u : Value) (t : Tr), treeOk K k u t = true → ∃ v, RelV v u ∧ ∀ G, Tp K G v t := by
  intro k
  induction k with
  | zero => intro u t h; cases h
  | succ k ih =>
    intro u t h
    unfold treeOk at h
    split at h
    · cases ‹_ = 0›
    · rename_i i tok j _ _ _
      exact ⟨.int _, ⟨_, rfl⟩, fun G => by rw [beq_iff_eq.mp h]; exact .int _⟩
    · rename_i d ts hk
      cases hk
      split at h
      · rename_i o ho
        obtain ⟨h1, h2⟩ := Bool.and_eq_true_iff.mp h
        split at h2
        · rename_i its n hd
          obtain ⟨h3, h4⟩ := Bool.and_eq_true_iff.mp h2
          obtain ⟨h5, h6⟩ := Bool.and_eq_true_iff.mp h3
          obtain ⟨vs, q1, q2⟩ := trees_ok ih (by rw [Array.length_toList]; exact beq_iff_eq.mp h6) h4
          refine ⟨.ref d, rfl, fun G => .tup (.inr ⟨o, its, n, ho, beq_iff_eq.mp h1, hd, ?_, q1⟩) (q2 G)⟩
          have := of_decide_eq_true h5
          rw [sizeLine_eq]
          omega
        · cases h2
      · cases h
    · cases h
theorem se_tree {k : Nat} {d : Addr} {t : Tr} (h : treeOk K k (.ref d) t = true) : SE K f W (tC (.ref d)) (eT t) := by
  obtain ⟨v, r, q⟩ := tree_ok k _ _ h
  have e : v = .ref d := by
    cases v with
    | ref a => cases r; rfl
    | non => cases r
    | bl b => cases r
    | int i => obtain ⟨_, z⟩ := r; cases z
    | str i => obtain ⟨_, z⟩ := r; cases z
    | byt i => obtain ⟨_, z⟩ := r; cases z
    | flt i => obtain ⟨_, z⟩ := r; cases z
    | ty i => cases r
  subst e
  exact se_t q
end
end Ev

namespace Ev
open PySem L2 Evl Dl PySem.Spec PyProof.Rows
section
variable {X : Cx}
/-! ### len of a set of tuples -/
def rLenS' (K : PySem.W.Frag) (P : Program) (w : World) : List V → Hp → VK → Prop := fun vs H Q => ∃ (a : Addr) (L : List (Addr × List Int)), vs = [V.ref a] ∧ H a = some (SetTO P w a L) ∧ (∀ p ∈ L, SqT K H p.1 (p.2.map V.int)) ∧ ((L.map (·.2)).Nodup → Q (.int (L.length : Nat)) H)
theorem cr_lenS : CallR X (.builtin "len") (rLenS' X.K X.prog X.w) := by
  intro pins s σ H vs us Q I r h
  obtain ⟨a, L, rfl, ha, hk, q⟩ := h
  have R0 : SetT0 X.prog X.w s.heap a L := (I.hok a _ ha).1
  obtain ⟨es, ep, t, R⟩ := R0.full (fun p hp => I.isT (hk p hp))
  have hz : es.size = L.length := by
    rw [← Array.length_toList, R.rows]
    simp [rowsOf]
  have h64 := R.few
  obtain ⟨o, ho, hex, hd⟩ := R.ob
  rw [Vals.ref1 r]
  exact call_len_set ho hex hd R.fits (by omega) ⟨.int (L.length : Nat), H, I.tok _, ⟨_, by rw [hz]⟩, q R.nd⟩
/-! ### xs.count(x), data of any depth -/
def cntE (x : PyData) (ds : List PyData) : Nat := ds.countP fun z => PyData.eqv z x
def rCountD (K : PySem.W.Frag) : V → List V → Hp → VK → Prop := fun x xs H Q => ∃ (l : Addr) (y : V) (d : PyData) (ds : List PyData), x = V.ref l ∧ xs = [y] ∧ Dp K H (V.ref l) (.list ds) ∧ Dp K H y d ∧
  SeqAt.shaped (.list ds) = true ∧ SeqAt.shaped d = true ∧ Q (.int (cntE d ds : Nat)) H
theorem mt_countD (hu : X.A.units + 65 < cLine) : MtR X "list.count" (rCountD X.K) := by
  intro pins s σ H x xs v us Q I rx rxs h
  obtain ⟨l, y, d, ds, rfl, rfl, hl, hy, shl, shd, q⟩ := h
  cases rx
  obtain ⟨u, rfl, ru⟩ := rxs.one
  obtain ⟨bs, rd⟩ := Dp.reads I d y u hy ru
  have lay : PyData.canLayAll0 ds = true := SeqAt.canLay_of_shaped shl
  have room : X.A.units + 1 + min (PyData.depthAll ds) d.depth < cLine := room_in_shaped shd hu
  cases hl with
  | lst hs ha =>
    obtain ⟨its, rv, ⟨⟨cls, dd, data, sl⟩, n, ho, hcl, hdn, hdt⟩, hlen⟩ := I.list hs
    simp only at hcl hdt
    subst hcl hdt
    obtain ⟨as, rds⟩ := Dp.readsAll I ds _ its ha rv
    have hmap : its.map (SeqAt.readOf s.heap) = ds := SeqAt.readsAll_map ds its as lay rds
    refine call_meets PySem.F.slot_list_count ⟨_, ho, rfl⟩ PySem.F.entry_list_count (PySem.F.args_list_count_2 _ _) (SeqAt.list_countAt l its.toArray n dd sl u fun z => PyData.eqv (SeqAt.readOf s.heap z) d) ?_
    refine ⟨ho, SeqAt.items_eqAt (vs := its.toArray) (show ReadsAll s.heap its.toArray.toList ds as from rds) rd lay (SeqAt.canLay_of_shaped shd) room, ?_⟩
    have ec : its.toArray.toList.countP (fun z => PyData.eqv (SeqAt.readOf s.heap z) d) = cntE d ds := by
      unfold cntE
      rw [← hmap, List.countP_map]
      rfl
    refine ⟨.int (cntE d ds : Nat), H, I.tok _, ⟨s.toks, ?_⟩, q⟩
    show Value.int ((its.toArray.toList.countP (fun z => PyData.eqv (SeqAt.readOf s.heap z) d) : Nat) : Int) s.toks = _
    rw [ec]
end
section
variable {K : PySem.W.Frag} {f : Fx} {W : WX}
def eLenSet (a : Env → M (Env × Dv)) : Env → M (Env × Dv) := fun e => (a e).bind fun p => match seqv p.1 p.2 with
  | some (false, ts) => match tupsT ts with
    | some ls => if ls.length < 64 then .ret (p.1, .t (.int ((nubL ls).length : Nat))) else .bad
    | none => .bad
  | _ => .bad
theorem se_lenSet {P : Program} {wd : World} {te : TE} {a : Env → M (Env × Dv)} (h : SE K f W te a) : SE K f W (tCB (rLenS' K P wd) (tCons (tCB (rSetOfT K P wd) (tCons te tNil)) tNil)) (eLenSet a) := fun n tmp e G H σ Q X s xw w => by
  refine h n tmp e G H σ _ X s xw (wp_imp (wpb w) fun n1 p w1 v G1 H1 x1 sv => ?_)
  have sm := svs_sem sv
  split at w1
  · rename_i ts q
    obtain ⟨a, xs, rfl, sq, al⟩ := svs_seq sv q
    split at w1
    · rename_i ls q2
      split at w1
      · rename_i h64
        have ht := tupsT_eq q2
        subst ht
        have pl : ∃ ks : List (Addr × List Int), ks.map (·.2) = ls ∧ xs = ks.map (fun p => V.ref p.1) ∧ ∀ p ∈ ks, Tp K G1 (.ref p.1) (trI p.2) := by
          clear w1 q q2 h64 sq
          induction ls generalizing xs with
          | nil => cases al; exact ⟨[], rfl, rfl, fun p m => by cases m⟩
          | cons l ls ih =>
            cases al with
            | cons a b =>
              obtain ⟨ks, k1, k2, k3⟩ := ih _ b
              obtain ⟨t, e1, _⟩ := tupI_of a
              subst e1
              exact ⟨(t, l) :: ks, by simp [k1], by simp [k2], fun p m => by
                rcases List.mem_cons.mp m with rfl | m
                · exact a
                · exact k3 p m⟩
        obtain ⟨ks, k1, rfl, k3⟩ := pl
        have hkl : ks.length = ls.length := by rw [← k1, List.length_map]
        have sqk : ∀ {Hx : Hp}, Ex G1 Hx → ∀ p ∈ ks, SqT K Hx p.1 (p.2.map V.int) := fun {Hx} ex p m => by
          obtain ⟨t, e1, e2⟩ := tupI_of ((k3 p m).mono ex)
          cases e1
          exact e2
        refine ⟨a, ks, rfl, sq_of sq, sqk sm.ex, by rw [hkl]; exact h64, fun b L hbn hL1 hL2 => ?_⟩
        have sb := sm.allocH (ob := SetTO P wd b L) hbn
        refine ⟨b, L, rfl, upd_same, fun p m => sqk sb.ex p (hL1 p m), fun hnd => ?_⟩
        have e1 : L.length = (nubL ls).length := by
          have : (L.map (·.2)).Perm (nubL ls) := by
            refine (List.perm_ext_iff_of_nodup hnd (nubL_nodup ls)).mpr fun a => ?_
            rw [nubL_mem]
            constructor
            · intro m
              obtain ⟨p, mp, rfl⟩ := List.mem_map.mp m
              rw [← k1]
              exact List.mem_map_of_mem (hL1 p mp)
            · intro m
              rw [← k1] at m
              obtain ⟨p, mp, rfl⟩ := List.mem_map.mp m
              exact hL2 p mp
          have := this.length_eq
          rwa [List.length_map] at this
        rw [← e1] at w1
        exact w1 _ G1 _ x1 (sv_t sb (.int _))
      · exact w1.elim
    · exact w1.elim
  · exact w1.elim
def eCnt (to : Env → M (Env × Dv)) (ta : Env → M (Env × List Dv)) : Env → M (Env × Dv) := fun e => (to e).bind fun p => match seqv p.1 p.2 with
  | some (false, _) => (ta p.1).bind fun q => match seqv q.1 p.2, q.2 with
    | some (false, ts), [d] => match view q.1 d with
      | some x => if (okT 20 (.lst ts) && okT 20 x) = true then .ret (q.1, .t (.int (cntE (toD x) (ts.map toD) : Nat))) else .bad
      | none => .bad
    | _, _ => .bad
  | _ => .bad
theorem se_cnt {to : TE} {ta : TA} {mo : Env → M (Env × Dv)} {ma : Env → M (Env × List Dv)} (ho : SE K f W to mo) (ha : SA K f W ta ma) : SE K f W (tBM K "list" (rCountD K) to ta) (eCnt mo ma) := fun n tmp e G H σ Q X s xw w => by
  refine ho n tmp e G H σ _ X s xw (wp_imp (wpb w) fun n1 p w1 v G1 H1 x1 sv => ?_)
  split at w1
  · rename_i ts0 q0
    obtain ⟨a0, xs0, rfl, sq0, al0⟩ := svs_seq sv q0
    obtain ⟨tm, dk, s1⟩ := sv
    refine ⟨.inl ⟨rfl, xs0, sq_of sq0⟩, ha n1 (tm ++ tmp) p.1 G1 H1 σ _ X s1 xw (wp_imp (wpb w1) fun n2 p2 w2 vs G2 H2 x2 svs => ?_)⟩
    obtain ⟨e2, d2⟩ := p2
    dsimp only at w2 svs
    split at w2
    · rename_i ts d q2
      obtain ⟨tm2, dk2, s2⟩ := svs
      have sv3 : SVs K f n2 tmp e2 G2 H2 σ [p.2, d] (.ref a0 :: vs) := by
        obtain ⟨o2, re2, j2⟩ := s2
        refine ⟨tm ++ tm2, (dk.mono x2).cat dk2, o2, re2, jperm j2 (List.Perm.append_right o2 ?_)⟩
        show (tm2 ++ (tm ++ tmp)).Perm (tm ++ tm2 ++ tmp)
        rw [← List.append_assoc]
        exact List.Perm.append_right tmp List.perm_append_comm
      obtain ⟨v1, v2, e3⟩ := vs2 sv3
      cases e3
      have sm := svs_sem sv3
      split at w2
      · rename_i x q3
        split at w2
        · rename_i hok
          obtain ⟨ok1, ok2⟩ := Bool.and_eq_true_iff.mp hok
          obtain ⟨a1, xs1, e4, sq1, al1⟩ := svs_seq sv3 q2
          cases e4
          have tl : Tp K H2 (.ref a0) (.lst ts) := .lst sq1 (al1.mono sm.ex)
          have tx : Tp K H2 v2 x := svs_view (svs_tail sv3) q3
          refine ⟨a0, v2, toD x, toDs ts, rfl, rfl, tp_dp tl ok1, tp_dp tx ok2, okT_shaped (t := .lst ts) ok1, okT_shaped ok2, ?_⟩
          rw [toDs_map]
          exact w2 _ G2 H2 (x1.trans x2) (sv_t sm (.int _))
        · exact w2.elim
      · exact w2.elim
    · exact w2.elim
  · exact w1.elim
end
end Ev

namespace Ev
open PySem L2 Evl Dl PySem.Spec PyProof.Rows
section
variable {X : Cx}
/-! ### a set of the ints of a tuple -/
def rSetTI (K : PySem.W.Frag) (w : World) : List V → Hp → VK → Prop := fun xs H Q => ∃ (l : Addr) (ns : List Int), xs = [V.ref l] ∧ SqT K H l (ns.map V.int) ∧ ns.length ≤ 1000 ∧ ∀ a c, H a = none → c ≤ ns.length → Q (.ref a) (upd H a (SetO w a (fun j => decide (j ∈ ns)) c))
theorem cr_setTI (hc : X.calm = true) : CallR X (.type "set") (rSetTI X.K X.w) := by
  intro pins s σ H xs us Q I r h
  obtain ⟨l, ns, rfl, hl, hf, q⟩ := h
  rw [Vals.ref1 r]
  have hn : H s.heap.objs.size = none := I.hok.fresh (Nat.le_refl _)
  obtain ⟨its, rv, pt, hz⟩ := I.tuple hl
  have hi : IntsAre its.toArray.toList ns := ints_of_vals rv
  refine call_set_tupI ns (I.ok.hd hc) (show s.heap.IsTuple l its.toArray from pt) hi (by unfold scanBound; omega) fun h' tk c R hcn k => ?_
  exact ⟨.ref s.heap.objs.size, upd H s.heap.objs.size (SetO X.w s.heap.objs.size (fun j => decide (j ∈ ns)) c), I.laid (t' := tk) k (Nat.le_refl _) (setO_new R), rfl, q _ c hn hcn⟩
/-! ### a written dict of numbers, by texts: d.get(k) -/
abbrev CT := List (Str × Option Int)
def ctOk (K : PySem.W.Frag) (d : Addr) (tab : CT) : Bool := tab.all fun y => match PySem.W.nsIn K d y.1 with
  | some (some (.int i _)) => (match y.2 with
    | some j => decide (i = j)
    | none => false)
  | some none => y.2.isNone
  | _ => false
structure CTab (K : PySem.W.Frag) (wd : World) (d : Addr) (tab : CT) : Prop where
  ok : ctOk K d tab = true
  kd : ∃ es n, KDict K wd d es n
def cLook (tab : CT) (z : Str) : Option (Option Int) := (tab.find? fun y => decide (y.1 = z)).map (·.2)
theorem cLook_mem {tab : CT} {z : Str} {q : Option Int} (h : cLook tab z = some q) : (z, q) ∈ tab := by
  unfold cLook at h
  obtain ⟨y, h1, rfl⟩ := Option.map_eq_some_iff.mp h
  have h2 := List.find?_some h1
  have h3 : y.1 = z := of_decide_eq_true h2
  rw [← h3]
  exact List.mem_of_find?_eq_some h1
def cV : Option Int → V
  | some i => .int i
  | none => .non
def cT : Option Int → Tr
  | some i => .int i
  | none => .non
theorem CTab.look {K : PySem.W.Frag} {wd : World} {d : Addr} {tab : CT} {z : Str} {q : Option Int} (T : CTab K wd d tab) (h : cLook tab z = some q) : ∃ r, PySem.W.nsIn K d z = some r ∧ RelV (cV q) (r.getD .none) := by
  have m := List.all_eq_true.mp T.ok _ (cLook_mem h)
  dsimp only at m
  split at m
  · rename_i i t e1
    split at m
    · rename_i j
      have : i = j := of_decide_eq_true m
      subst this
      exact ⟨_, e1, ⟨t, rfl⟩⟩
    · cases m
  · rename_i e1
    cases q with
    | none => exact ⟨_, e1, rfl⟩
    | some ns => cases m
  · cases m
def tCGet (d : Addr) (tab : CT) (td ty : TE) : TE := fun σ H Q => td σ H fun x H1 => x = .ref d ∧ ty σ H1 fun y H2 => ∃ z q, y = .str z ∧ cLook tab z = some q ∧ Q (cV q) H2
theorem pe_cget {d : Addr} {tab : CT} {o e : Expr} {apos cpos : Pos} {td ty : TE} (T : CTab X.K X.w d tab) (ho : PE X o td) (he : PE X e ty) (m : M1 X o "get" apos e cpos) : PE X (.Call (.Attribute o "get" apos) [e] [] cpos) (tCGet d tab td ty) := by
  obtain ⟨es, n, D⟩ := T.kd
  refine ⟨fun pins s σ H Q I h => ?_⟩
  refine wpAny_Call_method m.base m.few m.line PySem.F.plainAttrs_dict PySem.F.slot_dict_get PySem.F.type_dict_get (thn (ho.run pins s σ H _ I h) fun u s1 ⟨x, H1, I1, rx, ex, q1⟩ => ?_)
  subst ex
  obtain rfl : u = Value.ref d := rx
  refine ⟨kd_type D I1, fun b q => ?_, ?_⟩
  · cases q
    exact ⟨_, I1.kIn _ _ D.at_, rfl⟩
  rw [m.trees]
  refine Calls.callWith_builtin rfl (Calls.evalArgs_plain (Calls.spliced_cons (thn (he.run pins s1 σ H1 _ I1 q1) fun iv s2 ⟨y, H2, I2, ry, z, q, ey, hq, q2⟩ => Calls.spliced_nil ?_)))
  subst ey
  obtain ⟨t, rfl⟩ := (show ∃ t, iv = Value.str z t from ry)
  obtain ⟨r, h1, h2⟩ := T.look hq
  have hm := PySem.W.mapOf_K (prog := X.prog) (w := X.w) I2.kIn D.at_ D.lit
  refine call_meetsIn PySem.F.slot_dict_get (kd_type D I2) PySem.F.entry_dict_get (PySem.F.args_dict_get_2 _ _) (meets_dict_get (strKind X.prog X.w) d (strKind_is X.prog X.w z t) D.low) ⟨_, hm, ?_⟩
  rw [PySem.W.find_K D.at_ h1]
  exact ⟨_, H2, I2.tok _, h2, q2⟩
end
section
variable {K : PySem.W.Frag} {f : Fx} {W : WX}
def insN (x : Int) : List Int → List Int
  | [] => [x]
  | y :: r => if x < y then x :: y :: r else if y < x then y :: insN x r else y :: r
/-- the members, rising -/
def sortN : List Int → List Int
  | [] => []
  | x :: r => insN x (sortN r)
theorem insN_mem (x k : Int) : ∀ l, k ∈ insN x l ↔ k = x ∨ k ∈ l
  | [] => by simp [insN]
  | y :: r => by
    unfold insN
    split
    · simp
    · split
      · simp only [List.mem_cons, insN_mem x k r]
        constructor
        · rintro (h | h | h) <;> simp [h]
        · rintro (h | h | h) <;> simp [h]
      · have : x = y := by omega
        subst this
        simp
theorem sortN_mem (k : Int) : ∀ l, k ∈ sortN l ↔ k ∈ l
  | [] => Iff.rfl
  | x :: r => by
    unfold sortN
    rw [insN_mem, sortN_mem k r, List.mem_cons]
theorem insN_lt (x : Int) : ∀ {l : List Int}, l.Pairwise (· < ·) → (insN x l).Pairwise (· < ·)
  | [], _ => .cons (fun _ m => by cases m) .nil
  | y :: l, hp => by
    cases hp with
    | cons h1 h2 =>
      unfold insN
      split
      · refine .cons (fun a m => ?_) (.cons h1 h2)
        rcases List.mem_cons.mp m with rfl | m
        · assumption
        · have := h1 a m
          omega
      · split
        · refine .cons (fun a m => ?_) (insN_lt x h2)
          rcases (insN_mem x a l).mp m with rfl | m
          · assumption
          · exact h1 a m
        · exact .cons h1 h2
theorem sortN_lt : ∀ l : List Int, (sortN l).Pairwise (· < ·)
  | [] => .nil
  | x :: r => insN_lt x (sortN_lt r)
theorem rising_eq : ∀ {L M : List Int}, L.Pairwise (· < ·) → M.Pairwise (· < ·) → (∀ k, k ∈ L ↔ k ∈ M) → L = M
  | [], [], _, _, _ => rfl
  | [], y :: M, _, _, h => absurd ((h y).mpr (List.mem_cons_self ..)) (by simp)
  | x :: L, [], _, _, h => absurd ((h x).mp (List.mem_cons_self ..)) (by simp)
  | x :: L, y :: M, hL, hM, h => by
    cases hL with
    | cons l1 l2 =>
      cases hM with
      | cons m1 m2 =>
        have exy : x = y := by
          rcases List.mem_cons.mp ((h x).mp (List.mem_cons_self ..)) with e | e
          · exact e
          · rcases List.mem_cons.mp ((h y).mpr (List.mem_cons_self ..)) with e2 | e2
            · exact e2.symm
            · have a := m1 x e
              have b := l1 y e2
              omega
        subst exy
        congr 1
        refine rising_eq l2 m2 fun k => ?_
        have hk := h k
        simp only [List.mem_cons] at hk
        constructor
        · intro m
          have := l1 k m
          rcases hk.mp (.inr m) with e | e
          · omega
          · exact e
        · intro m
          have := m1 k m
          rcases hk.mpr (.inr m) with e | e
          · omega
          · exact e
def eSortSetI (a : Env → M (Env × Dv)) : Env → M (Env × Dv) := fun e => (a e).bind fun p => match seqv p.1 p.2 with
  | some (true, ts) => match intsT ts with
    | some ns => if ns.length < 64 then .ret (p.1, .fr ((sortN ns).map .int)) else .bad
    | none => .bad
  | _ => .bad
theorem se_sortSetI {wd : World} {te : TE} {a : Env → M (Env × Dv)} (h : SE K f W te a) : SE K f W (tCB (rSortedSet wd) (tCons (tCB (rSetTI K wd) (tCons te tNil)) tNil)) (eSortSetI a) := fun n tmp e G H σ Q X s xw w => by
  refine h n tmp e G H σ _ X s xw (wp_imp (wpb w) fun n1 p w1 v G1 H1 x1 sv => ?_)
  have sm := svs_sem sv
  split at w1
  · rename_i ts q
    obtain ⟨a, xs, rfl, sq, al⟩ := svs_seq sv q
    split at w1
    · rename_i ns q2
      split at w1
      · rename_i h64
        have hx := intsT_ok q2 al
        subst hx
        refine ⟨a, ns, rfl, sq, by omega, fun b c hbn hc => ?_⟩
        have sb := sm.allocH (ob := SetO wd b (fun j => decide (j ∈ ns)) c) hbn
        refine ⟨b, _, c, rfl, upd_same, by omega, fun ms p h1 h2 h3 hpn => ?_⟩
        have e1 : ms = sortN ns := rising_eq h1 (sortN_lt ns) fun k => by rw [h2, sortN_mem, decide_eq_true_eq]
        subst e1
        have al' : TpAll K G1 ((sortN ns).map V.int) ((sortN ns).map Tr.int) := by
          generalize sortN ns = l
          induction l with
          | nil => exact .nil
          | cons y l ih => exact .cons (.int y) ih
        exact w1 _ G1 _ x1 (sb.ownNew hpn al')
      · exact w1.elim
    · exact w1.elim
  · exact w1.elim
def eCGet (tab : CT) (a : Env → M (Env × Dv)) : Env → M (Env × Dv) := fun e => (a e).bind fun p => match view p.1 p.2 with
  | some (.str z) => match cLook tab z with
    | some q => .ret (p.1, .t (cT q))
    | none => .bad
  | _ => .bad
theorem se_cget {d : Addr} {tab : CT} {te : TE} {a : Env → M (Env × Dv)} (h : SE K f W te a) : SE K f W (tCGet d tab (tC (.ref d)) te) (eCGet tab a) := fun n tmp e G H σ Q X s xw w => by
  refine ⟨rfl, h n tmp e G H σ _ X s xw (wp_imp (wpb w) fun n1 p w1 v G1 H1 x1 sv => ?_)⟩
  have sm := svs_sem sv
  split at w1
  · rename_i z q
    have tv := svs_view sv q
    cases tv
    split at w1
    · rename_i r hr
      refine ⟨z, r, rfl, hr, w1 _ G1 H1 x1 (sv_t sm ?_)⟩
      cases r with
      | none => exact .non
      | some i => exact .int i
    · exact w1.elim
  · exact w1.elim
end
end Ev

namespace Ev
open PySem L2 Evl Dl
/-! ### stepping, with what comes out found on the way -/
section
variable {a b : Env → M Out} {t u : Env → M (Env × Bool)} {m ma mb : Env → M (Env × Dv)} {ar kr : Env → M (Env × List Dv)} {e e' e1 e2 e3 : Env} {n i j k : Nat} {P : Nat → Out → Prop} {X : XP} {F : List Slot → M Rv} {ds es : List Dv} {ss : List Slot} {x y z : Tr} {ts : List Tr} {d d1 d2 : Dv} {c c2 : Bool}
theorem varT (h : e[i]? = some (.t x)) : eVar i e = .ret (e, .t x) := by unfold eVar; rw [h]
theorem opX {o : Env → List Dv → M (Env × Dv)} {r : Env × Dv} (h : ar e = .ret (e1, ds)) (h2 : o e1 ds = .ret r) : evO o ar e = .ret r := (opE h).trans h2
theorem o2X {g : Tr → Tr → Option Tr} (h1 : view e d1 = some x) (h2 : view e d2 = some y) (h3 : g x y = some z) : o2 g e [d1, d2] = .ret (e, .t z) := by
  unfold o2 oPure
  rw [show views e [d1, d2] = some [x, y] by simp [views, h1, h2]]
  simp only [h3]
theorem o1X {g : Tr → Option Tr} (h1 : view e d1 = some x) (h3 : g x = some z) : o1 g e [d1] = .ret (e, .t z) := by
  unfold o1 oPure
  rw [show views e [d1] = some [x] by simp [views, h1]]
  simp only [h3]
def finR (e1 e2 : Env) : Rv → Option (Env × Dv)
  | .t x => match scalT x with
    | true => some (e1, .t x)
    | false => some (e2, .t x)
  | .fr ts => some (e2, .fr ts)
theorem callX {r : Rv} (h : ar e = .ret (e1, ds)) (h2 : slotsOf e1 ds = some (e2, ss)) (hk : ss.length = k) (hF : F ss = .ret r) (hf : finR e1 e2 r = some (e', d)) : evCall F k ar e = .ret (e', d) := by
  cases r with
  | fr ts => cases hf; exact callF h h2 hk hF
  | t x =>
    unfold finR at hf
    cases q : scalT x with
    | true => simp only [q] at hf; cases hf; exact callS h h2 hk hF q
    | false => simp only [q] at hf; cases hf; exact callT h h2 hk hF q
theorem callKX {r : Rv} {g : List Dv → List Dv → List Dv} (h : ar e = .ret (e1, ds)) (h1 : kr e1 = .ret (e2, es)) (h2 : slotsOf e2 (g ds es) = some (e3, ss)) (hk : ss.length = k) (hF : F ss = .ret r) (hf : finR e2 e3 r = some (e', d)) : evCallK F k g ar kr e = .ret (e', d) := by
  cases r with
  | fr ts => cases hf; exact callKF h h1 h2 hk hF
  | t x =>
    unfold finR at hf
    cases q : scalT x with
    | true => simp only [q] at hf; cases hf; exact callKS h h1 h2 hk hF q
    | false => simp only [q] at hf; cases hf; exact callKT h h1 h2 hk hF q
theorem tupX (h : ar e = .ret (e1, ds)) (h2 : slotsOf e1 ds = some (e2, ss)) (h3 : trsOf ss = some ts) (h4 : ts.length ≤ 100000) : eTup ar e = .ret (e2, .t (.tup ts)) := by
  unfold eTup
  rw [h]
  show (match slotsOf e1 ds with | some (e2, ss) => _ | none => M.bad) = _
  simp only [h2, h3, if_pos h4]
theorem lstX (h : ar e = .ret (e1, ds)) (h2 : slotsOf e1 ds = some (e2, ss)) (h3 : trsOf ss = some ts) (h4 : ts.length ≤ 100000) : eLst ar e = .ret (e2, .fr ts) := by
  unfold eLst
  rw [h]
  show (match slotsOf e1 ds with | some (e2, ss) => _ | none => M.bad) = _
  simp only [h2, h3, if_pos h4]
def kAnd (u : Env → M (Env × Bool)) (e : Env) (c : Bool) : M (Env × Bool) := match c with
  | true => u e
  | false => .ret (e, false)
def kOr (u : Env → M (Env × Bool)) (e : Env) (c : Bool) : M (Env × Bool) := match c with
  | true => .ret (e, true)
  | false => u e
def kAndV (u : Env → M (Env × Dv)) (e : Env) (c : Bool) : M (Env × Dv) := match c with
  | true => u e
  | false => .ret (e, .t (.bl false))
def kOrV (u : Env → M (Env × Dv)) (e : Env) (c : Bool) : M (Env × Dv) := match c with
  | true => .ret (e, .t (.bl true))
  | false => u e
def kIf (a b : Env → M (Env × Dv)) (e : Env) (c : Bool) : M (Env × Dv) := match c with
  | true => a e
  | false => b e
theorem andX {r : Env × Bool} (h : t e = .ret (e1, c)) (h2 : kAnd u e1 c = .ret r) : tAndM t u e = .ret r := by
  cases c with
  | true => exact (andT h).trans h2
  | false => exact (andF h).trans h2
theorem orX {r : Env × Bool} (h : t e = .ret (e1, c)) (h2 : kOr u e1 c = .ret r) : tOrM t u e = .ret r := by
  cases c with
  | true => exact (orT h).trans h2
  | false => exact (orF h).trans h2
theorem kAndT {r : Env × Bool} (h : u e = .ret r) : kAnd u e true = .ret r := h
theorem kAndF : kAnd u e false = .ret (e, false) := rfl
theorem kAndB (h : u e = .ret (e, c2)) : kAnd u e c = .ret (e, c && c2) := by cases c <;> first | exact h | rfl
theorem kOrF {r : Env × Bool} (h : u e = .ret r) : kOr u e false = .ret r := h
theorem kOrT : kOr u e true = .ret (e, true) := rfl
theorem kOrB (h : u e = .ret (e, c2)) : kOr u e c = .ret (e, c || c2) := by cases c <;> first | exact h | rfl
theorem valX (h : m e = .ret (e1, .t (.bl c))) : tVal m e = .ret (e1, c) := valE h
theorem andVX {r : Env × Dv} (h : ma e = .ret (e1, .t (.bl c))) (h2 : kAndV mb e1 c = .ret r) : eAnd ma mb e = .ret r := by
  unfold eAnd
  rw [valE h]
  cases c <;> exact h2
theorem orVX {r : Env × Dv} (h : ma e = .ret (e1, .t (.bl c))) (h2 : kOrV mb e1 c = .ret r) : eOr ma mb e = .ret r := by
  unfold eOr
  rw [valE h]
  cases c <;> exact h2
theorem notVX (h : m e = .ret (e1, .t (.bl c))) : eNot m e = .ret (e1, .t (.bl !c)) := by
  unfold eNot
  rw [valE h]
  rfl
theorem kAndVT {r : Env × Dv} (h : m e = .ret r) : kAndV m e true = .ret r := h
theorem kAndVF : kAndV m e false = .ret (e, .t (.bl false)) := rfl
theorem kAndVB (h : m e = .ret (e, .t (.bl c2))) : kAndV m e c = .ret (e, .t (.bl (c && c2))) := by cases c <;> first | exact h | rfl
theorem kOrVF {r : Env × Dv} (h : m e = .ret r) : kOrV m e false = .ret r := h
theorem kOrVT : kOrV m e true = .ret (e, .t (.bl true)) := rfl
theorem kOrVB (h : m e = .ret (e, .t (.bl c2))) : kOrV m e c = .ret (e, .t (.bl (c || c2))) := by cases c <;> first | exact h | rfl
theorem ifVX {r : Env × Dv} (h : t e = .ret (e1, c)) (h2 : kIf ma mb e1 c = .ret r) : eIf t ma mb e = .ret r := by
  unfold eIf
  rw [h]
  cases c <;> exact h2
theorem kIfT {r : Env × Dv} (h : ma e = .ret r) : kIf ma mb e true = .ret r := h
theorem kIfF {r : Env × Dv} (h : mb e = .ret r) : kIf ma mb e false = .ret r := h
theorem kIfB (h : ma e = .ret (e, .t x)) (h2 : mb e = .ret (e, .t y)) : kIf ma mb e c = .ret (e, .t (if c = true then x else y)) := by cases c <;> first | exact h | exact h2
theorem notX (h : t e = .ret (e1, c)) : tNotM t e = .ret (e1, !c) := notE h
/-! statements -/
def retOf (e : Env) : Dv → Option Rv
  | .t x => some (.t x)
  | .fr ts => some (.fr ts)
  | .sl i => match e[i]? with
    | some (.live ts) => some (.fr ts)
    | some (.t x) => some (.t x)
    | _ => none
  | _ => none
theorem retX {r : Rv} (h : m e = .ret (e1, d)) (h2 : retOf e1 d = some r) : sRet m e = .ret (.rt r) := by
  unfold sRet
  rw [h]
  show (match d with | .t x => M.ret (Out.rt (.t x)) | .fr ts => M.ret (Out.rt (.fr ts)) | .sl i => (match e1[i]? with | some (.live ts) => M.ret (Out.rt (.fr ts)) | some (.t x) => M.ret (Out.rt (.t x)) | _ => M.bad) | _ => M.bad) = _
  cases d with
  | t x => cases h2; rfl
  | fr ts => cases h2; rfl
  | sl i =>
    unfold retOf at h2
    dsimp only at h2 ⊢
    cases q : e1[i]? with
    | none => simp [q] at h2
    | some s => cases s <;> simp_all
  | vv v => cases h2
  | pu => cases h2
theorem seqX {r : Out} (h : a e = .ret (.nx e')) (h2 : b e' = .ret r) : sSeq a b e = .ret r := (seqE h).trans h2
theorem ifSX {r : Out} (h : t e = .ret (e', c)) (h2 : (match c with | true => a e' | false => b e') = .ret r) : sIf t a b e = .ret r := by
  cases c with
  | true => exact (ifT h).trans h2
  | false => exact (ifF h).trans h2
theorem ifSF {r : Out} (h : t e = .ret (e', c)) (hc : c = false) (h2 : b e' = .ret r) : sIf t a b e = .ret r := by
  subst hc
  exact (ifF h).trans h2
theorem ifST {r : Out} (h : t e = .ret (e', c)) (hc : c = true) (h2 : a e' = .ret r) : sIf t a b e = .ret r := by
  subst hc
  exact (ifT h).trans h2
namespace W
theorem setX (h : m e = .ret (e1, d)) (h2 : storeD e1 i d = some e') (w : Wp (b e') n P X) : Wp (sSeq (sSet i m) b e) n P X := W.eq (seqE (setE h h2)) w
theorem dropX (h : m e = .ret (e1, d)) (w : Wp (b e1) n P X) : Wp (sSeq (sDrop m) b e) n P X := W.eq (seqE (dropE h)) w
theorem nextX (w : Wp (b e) n P X) : Wp (sSeq sNext b e) n P X := W.eq (seqE rfl) w
/-- an if that is not taken -/
theorem skipX (h : t e = .ret (e', c)) (hc : c = false) (w : Wp (b e') n P X) : Wp (sSeq (sIf t a sNext) b e) n P X := by
  subst hc
  exact W.eq (seqE ((ifF h).trans rfl)) w
/-- an if that is taken -/
theorem takeX {a2 : Env → M Out} (h : t e = .ret (e', c)) (hc : c = true) (w : Wp (sSeq a b e') n P X) : Wp (sSeq (sIf t a a2) b e) n P X := by
  subst hc
  refine W.eq ?_ w
  unfold sSeq
  rw [ifT h]
theorem ifX (h : t e = .ret (e', c)) (hT : c = true → Wp (sSeq a b e') n P X) (hF : c = false → Wp (b e') n P X) : Wp (sSeq (sIf t a sNext) b e) n P X := by
  cases c with
  | true => exact takeX h rfl (hT rfl)
  | false => exact skipX h rfl (hF rfl)
theorem assoc {a1 a2 : Env → M Out} (w : Wp (sSeq a1 (sSeq a2 b) e) n P X) : Wp (sSeq (sSeq a1 a2) b e) n P X := by
  refine W.eq ?_ w
  unfold sSeq
  rw [bind_assoc]
  congr 1
  funext o
  cases o <;> rfl
theorem retRX {r : Rv} (h : m e = .ret (e1, d)) (h2 : retOf e1 d = some r) (w : P n (.rt r)) : Wp (sRet m e) n P X := W.eq (retX h h2) (W.ret w)
theorem retSX {r : Rv} (h : m e = .ret (e1, d)) (h2 : retOf e1 d = some r) (w : P n (.rt r)) : Wp (sSeq (sRet m) b e) n P X := W.eq (seqR (retX h h2)) (W.ret w)
/-- the last of a body -/
theorem setL (h : m e = .ret (e1, d)) (h2 : storeD e1 i d = some e') (w : P n (.nx e')) : Wp (sSet i m e) n P X := W.eq (setE h h2) (W.ret w)
theorem skipL (h : t e = .ret (e', c)) (hc : c = false) (w : P n (.nx e')) : Wp (sIf t a sNext e) n P X := by
  subst hc
  exact W.eq ((ifF h).trans rfl) (W.ret w)
theorem iteX (h : t e = .ret (e', c)) (hT : c = true → Wp (a e') n P X) (hF : c = false → Wp (b e') n P X) : Wp (sIf t a b e) n P X := ite c h hT hF
/-- a value that is drawn, or found by a call that draws, then kept -/
theorem setW {Pm : Nat → Env × Dv → Prop} (h : Wp (m e) n Pm X) (w : ∀ n' r, Pm n' r → ∃ e', storeD r.1 i r.2 = some e' ∧ Wp (b e') n' P X) : Wp (sSeq (sSet i m) b e) n P X := W.seq (W.set h w)
theorem drawS {mm : Int} (h : ar e = .ret (e1, [.pu, .t (.int mm)])) (h1 : 1 ≤ mm) (h2 : mm ≤ 1000) (hn : 1 ≤ n) (w : ∀ r, 0 ≤ r → r < mm → Wp (b (e1.set i (.t (.int r)))) (n - 1) P X) : Wp (sSeq (sSet i (eDraw ar)) b e) n P X :=
  setW (draw h h1 h2 hn (Pm := fun n' r => n' = n - 1 ∧ ∃ q : Int, 0 ≤ q ∧ q < mm ∧ r = (e1, .t (.int q))) fun r h0 h1 => ⟨rfl, r, h0, h1, rfl⟩) fun n' r ⟨hn', q, h0, h1, hr⟩ => by
    subst hn' hr
    exact ⟨_, rfl, w q h0 h1⟩
/-- a call that draws and tells something -/
theorem callW {Pm : Nat → Env × Dv → Prop} (h : ar e = .ret (e1, ds)) (h2 : slotsOf e1 ds = some (e2, ss)) (hk : ss.length = k) (hF : Wp (F ss) n (RvP e1 e2 Pm) (fun n' _ C => X n' e1 C)) : Wp (evCall F k ar e) n Pm X := callV h h2 hk hF
/-- a function's body without draws -/
theorem fn0 {N : Nat} {body : Env → M Out} {r : Rv} (h : Wp (body (ss ++ List.replicate (N - ss.length) .no)) 0 (fun n o => n = 0 ∧ o = .rt r) (fun _ _ _ => False)) : fnOf N body ss = .ret r := by
  have key : ∀ {α : Type} {m : M α} {v : α}, wp m 0 (fun n o => n = 0 ∧ o = v) (fun _ _ _ => False) → m = .ret v := fun {α m v} h => by
    cases m with
    | ret a => exact congrArg M.ret h.2
    | draw m k => exact absurd h.1 (by decide)
    | rz e C => exact h.elim
    | bad => exact h.elim
  exact fnR (key h.out)
theorem fn0e {N : Nat} {body : Env → M Out} {Q : Rv → Prop} (h : Wp (body (ss ++ List.replicate (N - ss.length) .no)) 0 (fun n o => n = 0 ∧ ∃ r, Q r ∧ o = .rt r) (fun _ _ _ => False)) : ∃ r, Q r ∧ fnOf N body ss = .ret r := by
  have key : ∀ {α : Type} {m : M α} {Q : α → Prop}, wp m 0 (fun n o => n = 0 ∧ Q o) (fun _ _ _ => False) → ∃ v, m = .ret v ∧ Q v := fun {α m Q} h => by
    cases m with
    | ret a => exact ⟨a, rfl, h.2⟩
    | draw m k => exact absurd h.1 (by decide)
    | rz e C => exact h.elim
    | bad => exact h.elim
  obtain ⟨v, h1, r, h2, rfl⟩ := key (wp_imp h.out fun n o h => ⟨h.1, h.2⟩)
  exact ⟨r, h2, fnR h1⟩
end W
/-! ### operations of numbers -/
theorem gLt_i (i j : Int) : gLt (.int i) (.int j) = some (.bl (decide (i < j))) := rfl
theorem gLe_i (i j : Int) : gLe (.int i) (.int j) = some (.bl (decide (i ≤ j))) := rfl
theorem gGt_i (i j : Int) : gGt (.int i) (.int j) = some (.bl (decide (j < i))) := rfl
theorem gGe_i (i j : Int) : gGe (.int i) (.int j) = some (.bl (decide (j ≤ i))) := rfl
theorem gEqF_i (a b : Int) : gEq false (.int a) (.int b) = some (.bl (decide (a = b))) := by
  show some (Tr.bl (false != PyData.eqv (.int a) (.int b))) = _
  rw [eqv_int, xf]
theorem gEqT_i (a b : Int) : gEq true (.int a) (.int b) = some (.bl (!decide (a = b))) := by
  show some (Tr.bl (true != PyData.eqv (.int a) (.int b))) = _
  rw [eqv_int]
  cases decide (a = b) <;> rfl
theorem gEqF_s (a b : Str) (h : ((PyData.str a).canLay0 && (PyData.str b).canLay0) = true) : gEq false (.str a) (.str b) = some (.bl (decide (a = b))) := by
  unfold gEq
  rw [if_pos (show (okT 20 (.str a) && okT 20 (.str b)) = true from h)]
  show some (Tr.bl (false != PyData.eqv (.str a) (.str b))) = _
  rw [xf]
  unfold PyData.eqv
  by_cases q : a = b <;> simp [q]
theorem gEqT_s (a b : Str) (h : ((PyData.str a).canLay0 && (PyData.str b).canLay0) = true) : gEq true (.str a) (.str b) = some (.bl (!decide (a = b))) := by
  unfold gEq
  rw [if_pos (show (okT 20 (.str a) && okT 20 (.str b)) = true from h)]
  show some (Tr.bl (true != PyData.eqv (.str a) (.str b))) = _
  unfold PyData.eqv
  by_cases q : a = b <;> simp [q]
theorem finS {x : Tr} : finR e e (.t x) = some (e, .t x) := by
  show (match scalT x with | true => some (e, Dv.t x) | false => some (e, Dv.t x)) = _
  cases scalT x <;> rfl
theorem iseqX {its : List Item} {e3 : Env} (h : m e = .ret (e1, d)) (h2 : forceD e1 d = some (e3, .lst ts)) (h3 : ts.map .one = its) : iSeq m e = .ret (e3, its) := by
  subst h3
  exact iseqE h h2
end
end Ev

namespace Ev
open PySem L2 Evl Dl PySem.Spec PyProof.Rows
section
variable {X : Cx}
/-! ### sorted(tuple of ints) -/
def rSortTI (K : PySem.W.Frag) : List V → Hp → VK → Prop := fun vs H Q => ∃ (a : Addr) (ns : List Int), vs = [V.ref a] ∧ SqT K H a (ns.map V.int) ∧ ns.length < 64 ∧ ∀ (ns' : List Int) (p : Addr), ns'.Perm ns → ns'.Pairwise (· ≤ ·) → H p = none → Q (.ref p) (upd H p (.lst (ns'.map V.int)))
/-- what a tuple's things are, gathered into a list at the heap's end -/
theorem gath_tup {pr : Program} {wo : World} {ar : Around} {Er : Value → Shared → Prop} {st : Shared} {l : Addr} {us : List Value} {R : List Value → Shared → Prop} (hl : st.heap.IsTuple l us.toArray) (hz : us.length ≤ sizeLine)
    (h : R us { st with heap := (st.heap.push (seqObj "list" #[] 0)).update st.heap.objs.size (Obj.mapSeq (· ++ us.toArray)) }) : wpAny (model pr wo) ar (collect (.ref l)) R Er st := by
  obtain ⟨ob, hob, hcl, k, hdt⟩ := id hl
  have hob2 := Heap.get?_push_of_some (seqObj "list" #[] 0) hob
  have hnew : (st.heap.push (seqObj "list" #[] 0)).get? st.heap.objs.size = some (seqObj "list" #[] 0) := Heap.get?_push_size _ rfl
  unfold collect; refine wpAny_bind (wpAny_runValue (codeAny_builtin entry_proto_collect' ?_))
  show wpAny _ _ (do again (.builtin "list.__iadd__" ⟨[← newList [], .ref l], []⟩)) _ _ st; refine wpAny_bind (wpAny_newList (wpAny_pure ⟨Code.quiet_builtin _ (by decide +kernel), codeAny_builtin entry_list_iadd' ?_⟩))
  show wpAny _ _ (Builtin.List.listExtendWith (.ref st.heap.objs.size) (.ref l) (.ref st.heap.objs.size)) _ _ { st with heap := st.heap.push (seqObj "list" #[] 0) }; unfold Builtin.List.listExtendWith
  refine wpAny_bind (wpAny_typeOf (T := "tuple") ⟨ob, hob2, hcl⟩ ?_); rw [if_pos (by simp)]
  refine wpAny_bind (listItems_at hob2 hdt (wpAny_bind (listItems_at (xs := #[]) (n := 0) hnew rfl ?_))); rw [if_neg (by simp)]
  refine wpAny_bind (listUpdate_at (xs := #[]) (n := 0) hnew rfl (wpAny_pure ?_) (Nat.zero_le _) (by simp only [Array.size_append, List.size_toArray, List.length_nil, Nat.zero_add]; omega))
  show wpAny (model pr wo) ar (load st.heap.objs.size >>= fun o => (match o.data with | .seq xs _ => pure xs.toList | _ => unsupported "internal:collect")) R Er { st with heap := (st.heap.push (seqObj "list" #[] 0)).update st.heap.objs.size (Obj.mapSeq (· ++ us.toArray)) }
  refine wpAny_bind (wpAny_load (get?_update_seq hnew _) ?_); have e1 : ((#[] : Array Value) ++ us.toArray).toList = us := by simp
  show wpAny _ _ (pure ((#[] : Array Value) ++ us.toArray).toList) R Er _; rw [e1]; exact wpAny_pure h
theorem cr_sortTI : CallR X (.builtin "sorted") (rSortTI X.K) := by
  intro pins s σ H vs us Q I r h
  obtain ⟨a, ns, rfl, hs, h64, q⟩ := h
  obtain ⟨its, rv, pt, hz⟩ := I.tuple hs
  rw [Vals.ref1 r]
  have hi : IntsAre its ns := by simpa using (ints_of_vals rv : IntsAre its.toArray.toList ns)
  have hil : its.length = ns.length := IntsAre.length hi
  have hsl : its.length ≤ sizeLine := by rw [sizeLine_eq]; omega
  refine Calls.call_function_entry kind_sorted plain_sorted entry_sorted (args_sorted1 _) ?_
  unfold Builtin.«sorted»; refine wpAny_bind (m := checkCount "sorted" 1 1 _) (wpAny_pure (wpAny_bind (gath_tup (show s.heap.IsTuple a its.toArray from pt) hsl (wpAny_bind (wpAny_newList ?_ hsl)))))
  have hsz2 : ((s.heap.push (seqObj "list" #[] 0)).update s.heap.objs.size (Obj.mapSeq (· ++ its.toArray))).objs.size = s.heap.objs.size + 1 := by rw [Heap.size_update, size_push']
  have hnl : (((s.heap.push (seqObj "list" #[] 0)).update s.heap.objs.size (Obj.mapSeq (· ++ its.toArray))).push (seqObj "list" its.toArray 0)).get? (s.heap.objs.size + 1) = some (seqObj "list" its.toArray 0) := by rw [← hsz2]; exact Heap.get?_push_size _ rfl
  show wpAny _ _ _ _ _ { s with heap := ((s.heap.push (seqObj "list" #[] 0)).update s.heap.objs.size (Obj.mapSeq (· ++ its.toArray))).push (seqObj "list" its.toArray 0) }; rw [hsz2]
  refine wpAny_bind (wpAny_holding (wpAny_call_entry slot_list_sort ⟨_, hnl, rfl⟩ entry_list_sort (list_sort_tree hnl hi (by omega) fun out ns' a1 a2 a3 => ⟨_, rfl, wpAny_pure ⟨_, rfl, ?_⟩⟩) (args_list_sort _)))
  obtain ⟨c, hc2⟩ := PyProof.Rows.sortedAll_at s.heap its out
  have hlen : (ns'.map V.int).length ≤ sizeLine := by rw [List.length_map, a2.length_eq, sizeLine_eq]; omega
  exact ⟨.ref (s.heap.objs.size + 1), upd H (s.heap.objs.size + 1) (.lst (ns'.map V.int)), I.laid (t' := s.toks) (fun _ _ => PyProof.Rows.sortedAll_old) (Nat.le_succ _) ⟨hlen, out.toList, c, vals_of_ints a1, hc2⟩, rfl, q ns' _ a2 a3 (I.hok.fresh (Nat.le_succ _))⟩
end
section
variable {K : PySem.W.Frag} {f : Fx} {W : WX}
def oSortT : Env → List Dv → M (Env × Dv) := fun e ds => match ds with
  | [d] => match seqv e d with
    | some (true, ts) => match intsT ts with
      | some ns => if ns.length < 64 then .ret (e, .fr ((sortI ns).map .int)) else .bad
      | none => .bad
    | _ => .bad
  | _ => .bad
theorem os_sortT : OS K f W (fun _ => rSortTI K) oSortT := fun n tmp e G H σ ds vs Q X s xw w => by
  unfold oSortT at w
  split at w
  · rename_i d
    obtain ⟨v, rfl⟩ := vs1 s
    have sm := svs_sem s
    split at w
    · rename_i ts q
      obtain ⟨a, xs, rfl, sq, al⟩ := svs_seq s q
      split at w
      · rename_i ns q2
        have hx := intsT_ok q2 al
        subst hx
        split at w
        · rename_i h64
          refine ⟨a, ns, rfl, sq, h64, fun ns' p h1 h2 hp => ?_⟩
          rw [sortI_eq h1 h2]
          exact w _ G _ (Ex.refl G) (sm.ownNew hp tpa_ints)
        · exact w.elim
      · exact w.elim
    · exact w.elim
  · exact w.elim
theorem sortTE {e : Env} {ns : List Int} (h : ns.length < 64) : oSortT e [.t (trI ns)] = .ret (e, .fr ((sortI ns).map .int)) := by
  show (match intsT (ns.map Tr.int) with | some ns => (if ns.length < 64 then M.ret (e, Dv.fr ((sortI ns).map .int)) else M.bad) | none => M.bad) = _
  rw [intsT_map]
  show (if ns.length < 64 then _ else _) = _
  rw [if_pos h]
end
/-! ### more of stepping with draws -/
theorem wTup {ar : Env → M (Env × List Dv)} {e : Env} {n : Nat} {X : XP} {Pm : Nat → Env × Dv → Prop} (h : Wp (ar e) n (fun n' p => ∃ e2 ss ts, slotsOf p.1 p.2 = some (e2, ss) ∧ trsOf ss = some ts ∧ ts.length ≤ 100000 ∧ Pm n' (e2, .t (.tup ts))) X) : Wp (eTup ar e) n Pm X := by
  refine W.mk ?_
  unfold eTup
  rw [wp_bind]
  refine wp_imp h.out fun n' p w => ?_
  obtain ⟨e2, ss, ts, h1, h2, h3, h4⟩ := w
  simp only [h1, h2, if_pos h3]
  exact h4
theorem wRet {m : Env → M (Env × Dv)} {e : Env} {n : Nat} {X : XP} {P : Nat → Out → Prop} (h : Wp (m e) n (fun n' r => ∃ rv, retOf r.1 r.2 = some rv ∧ P n' (.rt rv)) X) : Wp (sRet m e) n P X := by
  refine W.mk ?_
  have : sRet m e = (m e).bind fun p => sRet (fun _ => .ret p) e := rfl
  rw [this, wp_bind]
  refine wp_imp h.out fun n' p w => ?_
  obtain ⟨rv, h1, h2⟩ := w
  rw [retX (m := fun _ => .ret p) (e1 := p.1) (d := p.2) rfl h1]
  exact h2
theorem wCall {F : List Slot → M Rv} {k : Nat} {ar : Env → M (Env × List Dv)} {e : Env} {n : Nat} {X : XP} {Pm : Nat → Env × Dv → Prop} (h : Wp (ar e) n (fun n' p => ∃ e2 ss, slotsOf p.1 p.2 = some (e2, ss) ∧ ss.length = k ∧ Wp (F ss) n' (RvP p.1 e2 Pm) (fun n' _ C => X n' p.1 C)) X) : Wp (evCall F k ar e) n Pm X := by
  refine W.mk ?_
  have : evCall F k ar e = (ar e).bind fun p => evCall F k (fun _ => .ret p) e := rfl
  rw [this, wp_bind]
  refine wp_imp h.out fun n' p w => ?_
  obtain ⟨e2, ss, h1, h2, h3⟩ := w
  exact wp_callV (ar := fun _ => .ret p) (e1 := p.1) (ds := p.2) rfl h1 h2 h3.out
theorem wStep {a b : Env → M Out} {e : Env} {n : Nat} {X : XP} {P : Nat → Out → Prop} {R : Nat → Env → Prop} (h : Wp (a e) n (fun n' o => ∃ e', o = .nx e' ∧ R n' e') X) (k : ∀ n' e', R n' e' → Wp (b e') n' P X) : Wp (sSeq a b e) n P X :=
  W.seq (W.imp h fun n' o ⟨e', ho, hr⟩ => by subst ho; exact k n' e' hr)
theorem wNx {e : Env} {n : Nat} {X : XP} {P : Nat → Out → Prop} (h : P n (.nx e)) : Wp (sNext e) n P X := W.eq rfl (W.ret h)
end Ev

namespace Ev
open PySem L2 Evl Dl PySem.Spec PyProof.Rows
/-! ### a tuple the other way about -/
theorem part_of {pr : Program} {wo : World} {ar : Around} {Er : Value → Shared → Prop} {st : Shared} {v : Value} {o : Option Int} {R : Option Int → Shared → Prop} (p : IsPart v o) (h : R o st) : wpAny (model pr wo) ar (Builtin.Slice.slicePartIndex v) R Er st := HT.slicePart_ p h
theorem places_rev (k : Nat) : Builtin.Slice.slicePlaces ((k : Int) - 1) (-1) (-1) = k := by
  unfold Builtin.Slice.slicePlaces
  have e0 : ¬ ((-1 : Int) > 0) := by omega
  have e1 : (- -1 : Int) = 1 := by omega
  simp only [e0, if_false, e1, Int.ediv_one]
  split <;> omega
theorem fm_congr {α β : Type} {f g : α → Option β} : ∀ l : List α, (∀ x ∈ l, f x = g x) → l.filterMap f = l.filterMap g
  | [], _ => rfl
  | x :: l, h => by rw [List.filterMap_cons, List.filterMap_cons, h x (List.mem_cons_self ..), fm_congr l fun y m => h y (List.mem_cons_of_mem _ m)]
theorem picks_rev (xs : Array Value) : ((List.range xs.size).filterMap fun (m : Nat) => xs[(((xs.size : Int) - 1) + (m : Int) * (-1)).toNat]?).toArray = xs.toList.reverse.toArray := by
  congr 1
  have h1 : ((List.range xs.size).filterMap fun (m : Nat) => xs[(((xs.size : Int) - 1) + (m : Int) * (-1)).toNat]?) = ((List.range xs.size).map fun k => xs.size - 1 - k).filterMap (xs[·]?) := by
    rw [List.filterMap_map]
    refine fm_congr _ fun m hm => ?_
    have := List.mem_range.mp hm
    show xs[_]? = xs[xs.size - 1 - m]?
    congr 1
    omega
  rw [h1, PySem.W.krv_range, List.filterMap_reverse, PySem.W.krv_all]
theorem rev_tuple {pr : Program} {wo : World} {ar : Around} {Er : Value → Shared → Prop} {st : Shared} {t sl : Addr} {xs : Array Value} {v1 v2 v3 : Value} {R : Value → Shared → Prop} (ht : IsTup st.heap t xs) (hs : st.heap.IsSliceOf sl v1 v2 v3) (p1 : IsPart v1 none) (p2 : IsPart v2 none) (p3 : IsPart v3 (some (-1))) (hz : xs.size ≤ sizeLine)
    (h : R (.ref st.heap.objs.size) { st with heap := st.heap.push { cls := .type "tuple", data := .seq xs.toList.reverse.toArray } }) : wpAny (model pr wo) ar (getItem (.ref t) (.ref sl)) R Er st := by
  obtain ⟨ob, h1, h2, h3⟩ := id hs
  have hok : sizeOk (.seq xs.toList.reverse.toArray) := by
    show xs.toList.reverse.toArray.size ≤ sizeLine
    rw [List.size_toArray, List.length_reverse, Array.length_toList]; exact hz
  unfold getItem; (try with_reducible refine wpAny_holding ?_); (first | refine wpAny_bind (wpAny_pure ?_) | skip)
  refine wpAny_bind (wpAny_sequenceKey ht.typeIs (by decide) (wpAny_bind (wpAny_callSpecial?_slot (name := Str.ofString "__getitem__") ht.typeIs PyProof.Rows.slot_tuple_getitem (wpAny_call_entry PyProof.Rows.slot_tuple_getitem ht.typeIs entry_tuple_getitem ?_ (args_tuple_getitem _ _)))))
  show wpAny _ _ (Builtin.Tuple.tupleItemsOf (.ref t) >>= _) _ _ st; refine wpAny_bind (tupleItemsOf_ ht (wpAny_bind (wpAny_typeOf ⟨ob, h1, h2⟩ ?_))); rw [if_pos (by decide)]
  refine wpAny_bind (m := Builtin.Slice.sliceApplied (.ref sl) (pure (xs.size : Int))) ?_
  unfold Builtin.Slice.sliceApplied Builtin.Slice.sliceFields
  refine wpAny_bind (wpAny_bind (wpAny_field h1 h3 (x := v1) rfl (wpAny_bind (wpAny_field h1 h3 (x := v2) rfl (wpAny_bind (wpAny_field h1 h3 (x := v3) rfl (wpAny_pure (wpAny_bind (part_of p3 ?_)))))))))
  show wpAny _ _ (if ((-1 : Int) == 0) = true then _ else _) _ _ st; rw [if_neg (by decide)]
  refine wpAny_bind (part_of p1 (wpAny_bind (part_of p2 (wpAny_bind (wpAny_pure ?_)))))
  show wpAny _ _ (pure (((xs.size : Int) - 1), (-1 : Int), Builtin.Slice.slicePlaces ((xs.size : Int) - 1) (-1) (-1))) _ _ st; rw [places_rev]; refine wpAny_pure ?_
  have hno : ¬ ((((xs.size : Int) - 1) == 0 && (-1 : Int) == 1 && xs.size == xs.size) = true) := by simp
  show wpAny _ _ (if (((xs.size : Int) - 1) == 0 && (-1 : Int) == 1 && xs.size == xs.size) = true then _ else _) _ _ st; rw [if_neg hno, picks_rev]
  first
    | exact wpAny_bind (m := Builtin.Tuple.tupleExact _) (wpAny_newObj_type (wpAny_pure ⟨_, rfl, wpAny_pure h⟩) hok)
    | exact wpAny_bind (wpAny_bind (m := Builtin.Tuple.tupleExact _) (wpAny_newObj_type (wpAny_pure (wpAny_pure ⟨_, rfl, wpAny_pure h⟩)) hok))
    | exact wpAny_bind (wpAny_bind (m := Builtin.Tuple.tupleExact _) (wpAny_newObj_type (wpAny_pure ⟨_, rfl, wpAny_pure h⟩) hok))
def tRevT (K : PySem.W.Frag) (te : TE) : TE := fun σ H Q => te σ H fun x H1 => ∃ a xs, x = .ref a ∧ SqT K H1 a xs ∧ ∀ q o, o.dict = none → H1 q = none → Q (.ref q) (upd H1 q (.frz o (.tup xs.reverse)))
theorem pe_revT {X : Cx} {e : Expr} {te : TE} {k : Nat} {p1 p2 p3 pos : Pos} (he : PE X e te) : PE X (.Subscript e (.Slice none none (some (.UnaryOp .USub (.Constant (.int 1) k p1) p2)) p3) pos) (tRevT X.K te) := by
  have hm1 : L2.PO X (some (.UnaryOp .USub (.Constant (.int 1) k p1) p2)) (tPart (tUn (rU fun i => .int (-i)) (tC (.int 1)))) := po_some (pe_un un_neg pe_int)
  refine ⟨fun pins s σ H Q I h => Subscript_ (thn (he.run pins s σ H _ I h) fun v s1 ⟨x, H1, I1, r1, a, xs, ex, hx, q⟩ => ?_)⟩
  subst ex; cases r1
  refine wpAny_Slice (thn (po_none.run pins s1 σ H1 (fun o H2 => o = none ∧ H2 = H1) I1 ⟨rfl, rfl⟩) fun vl s2 ⟨l, H2, I2, pl, el, e2⟩ => thn (po_none.run pins s2 σ H2 (fun o H3 => o = none ∧ H3 = H2) I2 ⟨rfl, rfl⟩) fun vu s3 ⟨u, H3, I3, pu, eu, e3⟩ => ?_)
  subst el e2 eu e3
  refine thn (hm1.run pins s3 σ H3 (fun o H4 => o = some (-1) ∧ H4 = H3) I3 ⟨1, rfl, -1, rfl, rfl, rfl⟩) fun vs s4 ⟨o, H4, I4, ps, eo, e4⟩ => ?_
  subst eo e4
  have J : L2.Inv X pins σ H4 { s4 with heap := s4.heap.push { cls := .type "slice", data := .fields #[vl, vu, vs] } } := I4.kept (t' := s4.toks) fun b ob q => Heap.get?_push_of_some _ q
  obtain ⟨its, r, ht, hz⟩ := J.tuple hx
  have hlen := r.length
  show wpAny (model X.prog X.w) X.A (subscriptTail e (.Slice none none (some (.UnaryOp .USub (.Constant (.int 1) k p1) p2)) p3) (.ref a) (.ref s4.heap.objs.size)) (EP X pins σ Q) X.xe { s4 with heap := s4.heap.push { cls := .type "slice", data := .fields #[vl, vu, vs] } }
  refine tail_any (ops := [.ref a, .ref s4.heap.objs.size]) ht.typeIs PyProof.Rows.slot_tuple_getitem.lookup (rev_tuple ht (Heap.IsSliceOf.new _ vl vu vs) pl pu ps (by rw [List.size_toArray]; omega) ?_) (by with_unfolding_all rfl)
  have e0 : its.toArray.toList = its := by simp
  rw [e0]
  exact ⟨.ref _, _, J.laid (t' := s4.toks) (o := .frz _ (.tup xs.reverse)) (fun b ob q => Heap.get?_push_of_some _ q) (Nat.le_refl _) ⟨Heap.get?_push_size _ rfl, by rw [List.length_reverse]; exact hz, _, r.reverse, ⟨_, Heap.get?_push_size _ rfl, rfl, _, rfl⟩⟩, rfl, q _ _ rfl (J.hok.fresh (Nat.le_refl _))⟩
section
variable {K : PySem.W.Frag} {f : Fx} {W : WX}
def eRevT (a : Env → M (Env × Dv)) : Env → M (Env × Dv) := fun e => (a e).bind fun p => match seqv p.1 p.2 with
  | some (true, ts) => .ret (p.1, .t (.tup ts.reverse))
  | _ => .bad
theorem se_revT {te : TE} {a : Env → M (Env × Dv)} (h : SE K f W te a) : SE K f W (tRevT K te) (eRevT a) := fun n tmp e G H σ Q X s xw w => by
  refine h n tmp e G H σ _ X s xw (wp_imp (wpb w) fun n1 p w1 v G1 H1 x1 sv => ?_)
  have sm := svs_sem sv
  split at w1
  · rename_i ts q
    obtain ⟨a, xs, rfl, sq, al⟩ := svs_seq sv q
    refine ⟨a, xs, rfl, sq, fun q ob ho hq => ?_⟩
    obtain ⟨s4, x4⟩ := sm.alloc (ob := .frz ob (.tup xs.reverse)) hq ho
    exact w1 _ _ _ (x1.trans x4) (sv_t s4 (.tup (st_frz upd_same) ((tpa_rev al).mono x4)))
  · exact w1.elim
/-! ### bool(number) -/
def rBool : List V → Hp → VK → Prop := fun xs H Q => (∃ i, xs = [.int i] ∧ Q (.bl (i != 0)) H) ∨ ∃ k, xs = [.bl k] ∧ Q (.bl k) H
def gBool : Tr → Option Tr
  | .int i => some (.bl (i != 0))
  | .bl b => some (.bl b)
  | _ => none
end
theorem cr_boolN {X : Cx} : CallR X (.type "bool") rBool := call_bool1
section
variable {K : PySem.W.Frag} {f : Fx} {W : WX}
theorem os_boolN : OS K f W (fun _ => rBool) (o1 gBool) := by
  refine os_pure (fun xs z h => ?_) (fun H σ vs xs z Q ht hz q => ?_)
  · split at h
    · rename_i x
      cases x <;> simp only [gBool, Option.some.injEq, reduceCtorEq] at h
      · subst h; rfl
      · subst h; rfl
    · cases h
  · split at hz
    · rename_i x
      cases ht with
      | cons a b =>
        cases b
        cases a with
        | int i =>
          simp only [gBool, Option.some.injEq] at hz
          subst hz
          exact .inl ⟨i, rfl, q⟩
        | bl i =>
          simp only [gBool, Option.some.injEq] at hz
          subst hz
          exact .inr ⟨i, rfl, q⟩
        | _ => cases hz
    · cases hz
/-! ### {written}[xs[k]] -/
abbrev DT := List (Str × Int)
def tabK (tab : DT) : List (Key × V) := tab.map fun y => (Sum.inr y.1, V.int y.2)
def dLook (tab : DT) (z : Str) : Option Int := (tab.find? fun y => decide (y.1 = z)).map (·.2)
def tDisG (K : PySem.W.Frag) (tab : DT) (i : Nat) (k : Int) : TE := tDGet (tDisp (tab.map fun y => (tC (.str y.1), tC (.int y.2)))) (tOp (rIx K) (tVar i) (tC (.int k)))
theorem pairs_tab {σ : L2.St} {H : Hp} {Q : List (V × V) → Hp → Prop} : ∀ {tab : DT}, Q (tab.map fun y => (V.str y.1, V.int y.2)) H → tPairs (tab.map fun y => (tC (.str y.1), tC (.int y.2))) σ H Q
  | [], h => h
  | y :: tab, h => by
    show tPairs (tab.map fun y => (tC (.str y.1), tC (.int y.2))) σ H fun ps H3 => Q ((V.str y.1, V.int y.2) :: ps) H3
    exact pairs_tab h
theorem merge_new : ∀ (more acc : List (Key × V)), ((acc ++ more).map (·.1)).Nodup → mergeK acc more = acc ++ more
  | [], acc, _ => by simp [mergeK]
  | kv :: more, acc, h => by
    have hn : valV acc kv.1 = none := by
      unfold valV
      rw [Option.map_eq_none_iff, List.find?_eq_none]
      intro x hx hc
      have e : x.1 = kv.1 := of_decide_eq_true hc
      rw [List.map_append, List.nodup_append] at h
      exact h.2.2 x.1 (List.mem_map_of_mem hx) kv.1 (by simp) e
    show mergeK (putK acc kv.1 kv.2) more = _
    rw [putK_new _ hn, merge_new more (acc ++ [(kv.1, kv.2)]) (by simpa using h)]
    simp
theorem look_tab (z : Str) : ∀ tab : DT, valV (tabK tab) (Sum.inr z) = (dLook tab z).map V.int
  | [] => rfl
  | y :: tab => by
    have ih := look_tab z tab
    by_cases h : y.1 = z
    · have h2 : (Sum.inr y.1 : Key) = Sum.inr z := by rw [h]
      show valV ((Sum.inr y.1, V.int y.2) :: tabK tab) (Sum.inr z) = _
      rw [valV_pos (p := (Sum.inr y.1, V.int y.2)) h2]
      simp [dLook, List.find?_cons, h]
    · have h2 : ¬ (Sum.inr y.1 : Key) = Sum.inr z := fun q => h (Sum.inr.inj q)
      show valV ((Sum.inr y.1, V.int y.2) :: tabK tab) (Sum.inr z) = _
      rw [valV_neg (p := (Sum.inr y.1, V.int y.2)) h2, ih]
      simp [dLook, List.find?_cons, h]
def eDisG (tab : DT) (i : Nat) (k : Int) : Env → M (Env × Dv) := fun e => match e[i]? with
  | some (.t (.tup ts)) => match atI ts k with
    | some (.str z) => match dLook tab z with
      | some j => .ret (e, .t (.int j))
      | none => .bad
    | _ => .bad
  | _ => .bad
theorem se_disG {tab : DT} {i : Nat} {k : Int} (hn : (tab.map (·.1)).Nodup) (h15 : tab.length ≤ 15) : SE K f W (tDisG K tab i k) (eDisG tab i k) := fun n tmp e G H σ Q X s xw w => by
  intro p hp
  refine pairs_tab ⟨upd_same, tabK tab, ?_, by rw [tabK, List.length_map]; exact h15, ?_⟩
  · rw [tabK, List.map_map]; rfl
  have hm : mergeK [] (tabK tab) = tabK tab := by
    have := merge_new (tabK tab) [] (by
      rw [List.nil_append, tabK, List.map_map]
      refine List.Pairwise.map _ (fun a b hab q => hab ?_) (List.pairwise_map.mp hn)
      exact Sum.inr.inj q)
    simpa using this
  rw [upd_upd, hm]
  unfold eDisG at w
  split at w
  · rename_i ts q
    split at w
    · rename_i z q2
      split at w
      · rename_i j q3
        obtain ⟨o, re, jj⟩ := s
        obtain ⟨v, h1, h2⟩ := re.getT q
        have sm : Sem K f n tmp e G (upd H p (.dK (tabK tab))) σ := Sem.allocH ⟨o, re, jj⟩ hp
        cases h2 with
        | tup sq al =>
          obtain ⟨y, hy, tp⟩ := tpa_at al q2
          cases tp
          refine ⟨_, h1, .inr (.inl ⟨_, _, k, _, rfl, rfl, ex_t sm.ex sq, hy, p, .int j, rfl, .inl ⟨tabK tab, Sum.inr z, Rd.of upd_same, rfl, ?_⟩, w _ G _ (Ex.refl G) (sv_t sm (.int j))⟩)⟩
          rw [look_tab, q3]
          rfl
      · exact w.elim
    · exact w.elim
  · exact w.elim
end
section
variable {t u : Env → M (Env × Bool)} {m ma mb : Env → M (Env × Dv)} {e : Env}
theorem kAndN1 {r : Env × Bool} (h : u e = .ret r) : kAnd u e (!false) = .ret r := h
theorem kAndN2 : kAnd u e (!true) = .ret (e, false) := rfl
theorem kOrN1 {r : Env × Bool} (h : u e = .ret r) : kOr u e (!true) = .ret r := h
theorem kOrN2 : kOr u e (!false) = .ret (e, true) := rfl
theorem kAndVN1 {r : Env × Dv} (h : m e = .ret r) : kAndV m e (!false) = .ret r := h
theorem kAndVN2 : kAndV m e (!true) = .ret (e, .t (.bl false)) := rfl
theorem kOrVN1 {r : Env × Dv} (h : m e = .ret r) : kOrV m e (!true) = .ret r := h
theorem kOrVN2 : kOrV m e (!false) = .ret (e, .t (.bl true)) := rfl
theorem kIfN1 {r : Env × Dv} (h : ma e = .ret r) : kIf ma mb e (!false) = .ret r := h
theorem kIfN2 {r : Env × Dv} (h : mb e = .ret r) : kIf ma mb e (!true) = .ret r := h
end
end Ev

namespace Ev
open PySem L2 Evl Dl
/-! ### a dict of one's own: ints by ints -/
abbrev KV := List (Int × Int)
def kvV (kv : KV) : List (Key × V) := kv.map fun y => (Sum.inl y.1, V.int y.2)
def lookI (kv : KV) (k : Int) : Option Int := (kv.find? fun y => decide (y.1 = k)).map (·.2)
def putI (kv : KV) (k v : Int) : KV := if (kv.any fun y => decide (y.1 = k)) = true then kv.map fun y => if y.1 = k then (y.1, v) else y else kv ++ [(k, v)]
theorem kv_look (k : Int) : ∀ kv : KV, valV (kvV kv) (Sum.inl k) = (lookI kv k).map V.int
  | [] => rfl
  | y :: kv => by
    have ih := kv_look k kv
    by_cases h : y.1 = k
    · have h2 : (Sum.inl y.1 : Key) = Sum.inl k := by rw [h]
      show valV ((Sum.inl y.1, V.int y.2) :: kvV kv) (Sum.inl k) = _
      rw [valV_pos (p := (Sum.inl y.1, V.int y.2)) h2]
      simp [lookI, List.find?_cons, h]
    · have h2 : ¬ (Sum.inl y.1 : Key) = Sum.inl k := fun q => h (Sum.inl.inj q)
      show valV ((Sum.inl y.1, V.int y.2) :: kvV kv) (Sum.inl k) = _
      rw [valV_neg (p := (Sum.inl y.1, V.int y.2)) h2, ih]
      simp [lookI, List.find?_cons, h]
theorem kv_any (k : Int) (kv : KV) : ((kvV kv).any fun y => decide (y.1 = Sum.inl k)) = kv.any fun y => decide (y.1 = k) := by
  unfold kvV
  rw [List.any_map]
  congr 1
  funext y
  by_cases h : y.1 = k
  · simp [h]
  · have h2 : ¬ (Sum.inl y.1 : Key) = Sum.inl k := fun q => h (Sum.inl.inj q)
    simp [h]
theorem kv_put (kv : KV) (k v : Int) : kvV (putI kv k v) = putK (kvV kv) (Sum.inl k) (.int v) := by
  unfold putI putK
  rw [kv_any]
  by_cases h : (kv.any fun y => decide (y.1 = k)) = true
  · rw [if_pos h, if_pos h]
    unfold kvV
    rw [List.map_map, List.map_map]
    refine List.map_congr_left fun y _ => ?_
    by_cases q : y.1 = k
    · simp [q]
    · have h2 : ¬ (Sum.inl y.1 : Key) = Sum.inl k := fun z => q (Sum.inl.inj z)
      simp [q]
  · rw [if_neg h, if_neg h]
    unfold kvV
    rw [List.map_append]
    rfl
theorem kv_len (kv : KV) : (kvV kv).length = kv.length := by unfold kvV; rw [List.length_map]
def protD (f : Fx) (p : Addr) (kv : KV) : Fx := ⟨f.pu, upd f.H0 p (.dK (kvV kv)), f.G0⟩
structure FpOk (f : Fx) (p : Addr) : Prop where
  h0 : f.H0 p = none
  g0 : f.G0 p = none
  pu : ∀ q c, f.pu = some (q, c) → f.H0 q ≠ none ∧ f.H0 c ≠ none
section
variable {K : PySem.W.Frag} {f f' : Fx} {W : WX} {G G' H H' : Hp} {n : Nat} {σ : St} {e : Env} {o r tm tmp : List (Addr × List En)} {p : Addr} {kv kv2 : KV}
theorem RE.fx (h : f.pu = f'.pu) (re : RE K f G σ e o) : RE K f' G σ e o := by
  induction re with
  | nil => exact .nil
  | no _ ih => exact .no ih
  | t a _ ih => exact .t a ih
  | live _ ih => exact .live ih
  | vv _ ih => exact .vv ih
  | pu a _ ih => exact .pu (h ▸ a) ih
theorem fp_pu (x : FpOk f p) : ¬ isPu (protD f p kv) p := by
  rintro ⟨q, c, e1, e2⟩
  obtain ⟨h1, h2⟩ := x.pu q c e1
  rcases e2 with e2 | e2
  · rw [← e2] at h1; exact h1 x.h0
  · rw [← e2] at h2; exact h2 x.h0
theorem jdAt (x : FpOk f p) (j : J K (protD f p kv) ⟨n, r⟩ G H) : H p = some (.dK (kvV kv)) := j.fr p _ (fp_pu x) upd_same
theorem jdNo (x : FpOk f p) (j : J K (protD f p kv) ⟨n, r⟩ G H) : G p = none := by
  cases q : G p with
  | none => rfl
  | some ob =>
    have this : upd f.H0 p (.dK (kvV kv)) p = none := j.fs p (by rw [q]; simp) x.g0
    rw [upd_same] at this
    cases this
theorem pd_ne {b : Addr} (h : b ≠ p) : (protD f p kv).H0 b = f.H0 b := upd_ne h
/-- another content -/
theorem jdPut (x : FpOk f p) (j : J K (protD f p kv) ⟨n, r⟩ G H) : J K (protD f p kv2) ⟨n, r⟩ G (upd H p (.dK (kvV kv2))) := by
  have gx := jdNo x j
  have ax := jdAt x j
  refine ⟨fun b ob h => ?_, fun D es m => ?_, j.nd, fun q c hpc => ?_, fun b ob h1 h2 => ?_, j.g0, fun b h1 h2 => ?_, j.tf⟩
  · by_cases hb : b = p
    · subst hb; rw [gx] at h; cases h
    · rw [upd_ne hb]; exact j.ex b ob h
  · obtain ⟨a1, a2, a3, xs, a4, a5⟩ := j.own D es m
    have hD : D ≠ p := fun z => by
      subst z
      rw [ax] at a4
      cases a4
    exact ⟨a1, (pd_ne hD).trans ((pd_ne hD).symm.trans a2), a3, xs, by rw [upd_ne hD]; exact a4, a5⟩
  · obtain ⟨a1, a2, a3, a4, a5⟩ := j.pu q c hpc
    obtain ⟨h1, h2⟩ := x.pu q c hpc
    have np : q ≠ p := fun z => by subst z; exact h1 x.h0
    have nc : c ≠ p := fun z => by subst z; exact h2 x.h0
    refine ⟨a1, a2, fun z => h1 ((pd_ne np).symm.trans z), fun z => h2 ((pd_ne nc).symm.trans z), ?_⟩
    obtain ⟨cs, t, q1, q2, q3⟩ := a5
    exact ⟨cs, t, by rw [upd_ne np]; exact q1, by rw [upd_ne nc]; exact q2, q3⟩
  · by_cases hb : b = p
    · subst hb
      have h2' : upd f.H0 b (.dK (kvV kv2)) b = some ob := h2
      rw [upd_same] at h2'
      rw [← h2']
      exact upd_same
    · rw [upd_ne hb]
      exact j.fr b ob h1 ((pd_ne hb).trans ((pd_ne hb).symm.trans h2))
  · have := j.fs b h1 h2
    by_cases hb : b = p
    · subst hb
      exact absurd gx h1
    · exact (pd_ne hb).trans ((pd_ne hb).symm.trans this)
theorem jdOff (x : FpOk f p) (j : J K (protD f p kv) ⟨n, r⟩ G H) : J K f ⟨n, r⟩ G H := by
  have sub : ∀ b ob, f.H0 b = some ob → (protD f p kv).H0 b = some ob := fun b ob h => by
    have h1 : b ≠ p := fun z => by subst z; rw [x.h0] at h; cases h
    exact (pd_ne h1).trans h
  have non : ∀ b, (protD f p kv).H0 b = none → f.H0 b = none := fun b h => by
    cases q : f.H0 b with
    | none => rfl
    | some ob =>
      rw [sub b ob q] at h
      cases h
  refine ⟨j.ex, fun D es m => ?_, j.nd, fun q c hpc => ?_, fun b ob h1 h2 => j.fr b ob h1 (sub b ob h2), j.g0, fun b h1 h2 => non b (j.fs b h1 h2), j.tf⟩
  · obtain ⟨a1, a2, a3, xs, a4, a5⟩ := j.own D es m
    exact ⟨a1, non D a2, a3, xs, a4, a5⟩
  · obtain ⟨a1, a2, a3, a4, a5⟩ := j.pu q c hpc
    obtain ⟨h1, h2⟩ := x.pu q c hpc
    exact ⟨a1, a2, h1, h2, a5⟩
theorem jdNew (hp : H p = none) (j : J K f ⟨n, r⟩ G H) : FpOk f p ∧ J K (protD f p []) ⟨n, r⟩ G (upd H p (.dK [])) := by
  have hpu : ∀ q c, f.pu = some (q, c) → q ≠ p ∧ c ≠ p := fun q c h => by
    obtain ⟨_, _, _, _, cs, t, q1, q2, _⟩ := j.pu q c h
    exact ⟨(fun z => by subst z; rw [q1] at hp; cases hp), (fun z => by subst z; rw [q2] at hp; cases hp)⟩
  have h0 : f.H0 p = none := by
    cases q : f.H0 p with
    | none => rfl
    | some ob =>
      have := j.fr p ob (fun ⟨a, c, h1, h2⟩ => by
        obtain ⟨n1, n2⟩ := hpu a c h1
        rcases h2 with h2 | h2
        · exact n1 h2.symm
        · exact n2 h2.symm) q
      rw [hp] at this
      cases this
  have hg : G p = none := by
    cases q : G p with
    | none => rfl
    | some ob =>
      have := j.ex p ob q
      rw [hp] at this
      cases this
  have hg0 : f.G0 p = none := by
    cases q : f.G0 p with
    | none => rfl
    | some ob =>
      have := j.g0 p ob q
      rw [hg] at this
      cases this
  refine ⟨⟨h0, hg0, fun q c h => by obtain ⟨_, _, a3, a4, _⟩ := j.pu q c h; exact ⟨a3, a4⟩⟩, fun b ob h => ?_, fun D es m => ?_, j.nd, fun q c hpc => ?_, fun b ob h1 h2 => ?_, j.g0, fun b h1 h2 => ?_, j.tf⟩
  · have hb : b ≠ p := fun z => by subst z; rw [hg] at h; cases h
    rw [upd_ne hb]
    exact j.ex b ob h
  · obtain ⟨a1, a2, a3, xs, a4, a5⟩ := j.own D es m
    have hD : D ≠ p := fun z => by subst z; rw [hp] at a4; cases a4
    exact ⟨a1, (pd_ne hD).trans a2, a3, xs, by rw [upd_ne hD]; exact a4, a5⟩
  · obtain ⟨a1, a2, a3, a4, cs, t, q1, q2, q3⟩ := j.pu q c hpc
    obtain ⟨n1, n2⟩ := hpu q c hpc
    exact ⟨a1, a2, fun z => a3 ((pd_ne n1).symm.trans z), fun z => a4 ((pd_ne n2).symm.trans z), cs, t, by rw [upd_ne n1]; exact q1, by rw [upd_ne n2]; exact q2, q3⟩
  · by_cases hb : b = p
    · subst hb
      have h2' : upd f.H0 b (.dK (kvV [])) b = some ob := h2
      rw [upd_same] at h2'
      rw [← h2']
      exact upd_same
    · rw [upd_ne hb]
      exact j.fr b ob h1 ((pd_ne hb).symm.trans h2)
  · have hb : b ≠ p := fun z => by subst z; exact h1 hg
    exact (pd_ne hb).trans (j.fs b h1 h2)
theorem Sem.dOff (x : FpOk f p) (s : Sem K (protD f p kv) n tmp e G H σ) : Sem K f n tmp e G H σ := by
  obtain ⟨o, re, j⟩ := s
  exact ⟨o, RE.fx (show (protD f p kv).pu = f.pu from rfl) re, jdOff x j⟩
theorem Sem.dPut (x : FpOk f p) (s : Sem K (protD f p kv) n tmp e G H σ) : Sem K (protD f p kv2) n tmp e G (upd H p (.dK (kvV kv2))) σ := by
  obtain ⟨o, re, j⟩ := s
  exact ⟨o, RE.fx (show (protD f p kv).pu = (protD f p kv2).pu from rfl) re, jdPut x j⟩
theorem Sem.dNew (hp : H p = none) (s : Sem K f n tmp e G H σ) : FpOk f p ∧ Sem K (protD f p []) n tmp e G (upd H p (.dK [])) σ := by
  obtain ⟨o, re, j⟩ := s
  obtain ⟨h1, h2⟩ := jdNew hp j
  exact ⟨h1, o, RE.fx (show f.pu = (protD f p []).pu from rfl) re, h2⟩
theorem Sem.dAt (x : FpOk f p) (s : Sem K (protD f p kv) n tmp e G H σ) : H p = some (.dK (kvV kv)) := by
  obtain ⟨o, re, j⟩ := s
  exact jdAt x j
theorem PO.dOff {D : Ends} {o : Out} (x : FpOk f p) (h : PO K f G D n o) : PO K (protD f p kv) G D n o := by
  cases o with
  | nx e => exact fun σ G2 H2 x2 s => h σ G2 H2 x2 (s.dOff x)
  | rt r =>
    refine fun v G2 H2 x2 s => h v G2 H2 x2 ?_
    cases r with
    | t y => exact ⟨jdOff x s.1, s.2⟩
    | fr ts =>
      obtain ⟨D', h1, h2⟩ := s
      exact ⟨D', h1, jdOff x h2⟩
  | bk e => exact fun σ G2 H2 x2 s => h σ G2 H2 x2 (s.dOff x)
  | ct e => exact fun σ G2 H2 x2 s => h σ G2 H2 x2 (s.dOff x)
/-- statements with the dict: begun in its frame, ended in the def's own -/
def SB (K : PySem.W.Frag) (f : Fx) (p : Addr) (kv : KV) (W : WX) (ts : TS) (m : Env → M Out) : Prop :=
  ∀ n e G H σ (D : Ends) X, Sem K (protD f p kv) n [] e G H σ → XW K f W X → wp (m e) n (PO K f G D) X → ts D σ H
theorem XW.dOn {X : Nat → Env → Addr → Prop} (x : FpOk f p) (h : XW K f W X) : XW K (protD f p kv) W X := fun n tmp e G H σ C d s z xo => h n tmp e G H σ C d (s.dOff x) z xo
theorem sb_end {ts : TS} {m : Env → M Out} (x : FpOk f p) (h : SS K (protD f p kv) W ts m) : SB K f p kv W ts m := fun n e G H σ D X s xw w => h n e G H σ D X s (xw.dOn x) (wp_imp w fun n1 o w1 => w1.dOff x)
theorem sb_seq {t u : TS} {a b : Env → M Out} (x : FpOk f p) (ha : SS K (protD f p kv) W t a) (hb : SB K f p kv W u b) : SB K f p kv W (tSeq t u) (sSeq a b) := fun n e G H σ D X s xw w => by
  refine ha n e G H σ { D with nx := u D } X s (xw.dOn x) (wp_imp (wpb w) fun n1 o w1 => ?_)
  cases o with
  | nx e' => exact fun σ' G' H' x' s' => hb n1 e' G' H' σ' D X s' xw (wp_imp w1 fun n2 o2 w2 => w2.mono x')
  | rt r =>
    have := PO.dOff (kv := kv) x w1
    exact this
  | bk r =>
    have := PO.dOff (kv := kv) x w1
    exact this
  | ct r =>
    have := PO.dOff (kv := kv) x w1
    exact this
/-- for .. : a; d[k] = v -/
def bL (p : Addr) (i ki vi : Nat) (bd : Item → Env → Option Env) (a : Env → M Out) (rest : KV → Env → M Out) : KV → List Item → Env → M Out
  | kv, [], e => rest kv e
  | kv, it :: its, e => match bd it e with
    | none => .bad
    | some e2 => (a e2).bind fun o => match o with
      | .nx e3 => (match e3[i]?, e3[ki]?, e3[vi]? with
        | some (.vv (.ref q)), some (.t (.int k)), some (.t (.int v)) => if q = p ∧ kv.length < 1000 then bL p i ki vi bd a rest (putI kv k v) its e3 else .bad
        | _, _, _ => .bad)
      | _ => .bad
def sBuild (p : Addr) (i ki vi : Nat) (it : Env → M (Env × List Item)) (bd : Item → Env → Option Env) (a : Env → M Out) (rest : KV → Env → M Out) (kv : KV) : Env → M Out := fun e => (it e).bind fun r => bL p i ki vi bd a rest kv r.2 r.1
theorem putI_len (kv : KV) (k v : Int) : (putI kv k v).length ≤ kv.length + 1 := by
  unfold putI
  split
  · rw [List.length_map]; omega
  · rw [List.length_append]; simp
theorem sb_build {i ki vi : Nat} {wi : TI} {g : TG} {ta u : TS} {it : Env → M (Env × List Item)} {bd : Item → Env → Option Env} {a : Env → M Out} {rest : KV → Env → M Out} (x : FpOk f p) (hi : SI K (protD f p kv) W wi it) (hg : ∀ kv, SG K (protD f p kv) g bd) (ha : ∀ kv, SS K (protD f p kv) W ta a) (hr : ∀ kv, SB K f p kv W u (rest kv)) :
    SB K f p kv W (tSeq (tFor wi g (tSeq ta (tAsg (tVar vi) (gSub (tVar i) (tVar ki) rSetD)))) u) (sBuild p i ki vi it bd a rest kv) := fun n e G H σ D X s xw w => by
  refine hi n [] e G H σ _ X s (xw.dOn x) (wp_imp (wpb w) fun n1 r w1 G1 H1 J x1 s1 io => ?_)
  obtain ⟨e1, its⟩ := r
  dsimp only at w1 s1 io
  refine ⟨fun i1 m σ' H' => m = its.length - i1 ∧ ∃ n' e' G' kv', Ex G1 G' ∧ Sem K (protD f p kv') n' [] e' G' H' σ' ∧ wp (bL p i ki vi bd a rest kv' (its.drop i1) e') n' (PO K f G D) X, ⟨_, rfl, n1, e1, G1, kv, Ex.refl G1, s1, w1⟩, ?_⟩
  rintro i1 m σ' H' ⟨rfl, n', e', G', kv', eg, s', w'⟩
  by_cases hlt : i1 < its.length
  · have hx : its[i1]? = some its[i1] := List.getElem?_eq_getElem hlt
    have hd : its.drop i1 = its[i1] :: its.drop (i1 + 1) := List.drop_eq_getElem_cons hlt
    obtain ⟨h1, h2⟩ := io.2 i1 its[i1] H' (eg.trans s'.ex) hx
    refine .inr ⟨h1, fun σ2 H2 => ∃ n' e' G' kv', Ex G1 G' ∧ Sem K (protD f p kv') n' [] e' G' H2 σ2 ∧ wp (bL p i ki vi bd a rest kv' (its.drop (i1 + 1)) e') n' (PO K f G D) X, fun σ2 H2 h => ⟨_, by omega, rfl, h⟩, fun y H2 yl => ?_⟩
    obtain ⟨gr, yr⟩ := h2 y H2 yl
    rw [hd] at w'
    unfold bL at w'
    cases q : bd its[i1] e' with
    | none => simp only [q] at w'; exact w'.elim
    | some e2 =>
      simp only [q] at w'
      have yr' : YR K G' H2 y its[i1] := by
        revert yr
        cases its[i1] with
        | one t => exact fun h => h.mono eg
        | two t u => exact fun ⟨T, x, y, a1, a2, a3, a4⟩ => ⟨T, x, y, a1, a2, a3.mono eg, a4.mono eg⟩
      refine hg kv' n' [] e' G' H2 σ' y its[i1] e2 _ (s'.grow gr) yr' q fun σ3 s3 => ?_
      refine ha kv' n' e2 G' H2 σ3 _ X s3 (xw.dOn x) (wp_imp (wpb w') fun n4 o w4 => ?_)
      cases o with
      | nx e4 =>
        intro σ4 G4 H4 x4 s4
        dsimp only at w4
        split at w4
        · rename_i q1 k1 v1 hq hk hv
          split at w4
          · rename_i hc
            obtain ⟨rfl, hl⟩ := hc
            obtain ⟨o4, re4, j4⟩ := id s4
            have hs := re4.getV hq
            obtain ⟨vk, hk1, hk2⟩ := re4.getT hk
            obtain ⟨vv, hv1, hv2⟩ := re4.getT hv
            cases hk2
            cases hv2
            refine ⟨_, hv1, _, hs, _, hk1, q1, upd H4 q1 (.dK (putK (kvV kv') (Sum.inl k1) (.int v1))), rfl, DPut.k (k := Sum.inl k1) (s4.dAt x) (by rw [kv_len, sizeLine_eq]; omega), ?_⟩
            rw [← kv_put]
            exact ⟨n4, e4, G4, putI kv' k1 v1, eg.trans x4, s4.dPut x, w4⟩
          · exact w4.elim
        · exact w4.elim
      | ct e4 => exact w4.elim
      | bk e4 => exact w4.elim
      | rt r => exact w4.elim
  · rw [List.drop_eq_nil_of_le (by omega)] at w'
    exact .inl ⟨io.1 i1 H' (eg.trans s'.ex) (by omega), hr kv' n' e' G' H' σ' D X s' xw (wp_imp w' fun n2 o2 w2 => w2.mono (x1.trans eg))⟩
/-- a look into it -/
def eDGet (p : Addr) (kv : KV) (i : Nat) (a : Env → M (Env × Dv)) : Env → M (Env × Dv) := fun e => match e[i]? with
  | some (.vv (.ref q)) => if q = p then (a e).bind fun r => match view r.1 r.2 with
    | some (.int k) => match lookI kv k with
      | some v => .ret (r.1, .t (.int v))
      | none => .bad
    | _ => .bad
    else .bad
  | _ => .bad
theorem se_dget {i : Nat} {ta : TE} {a : Env → M (Env × Dv)} (x : FpOk f p) (h : SE K (protD f p kv) W ta a) : SE K (protD f p kv) W (tDGet (tVar i) ta) (eDGet p kv i a) := fun n tmp e G H σ Q X s xw w => by
  unfold eDGet at w
  split at w
  · rename_i q hq
    split at w
    · rename_i hp
      subst hp
      obtain ⟨o, re, j⟩ := id s
      refine ⟨_, re.getV hq, h n tmp e G H σ _ X s xw (wp_imp (wpb w) fun n1 r w1 v G1 H1 x1 sv => ?_)⟩
      have sm := svs_sem sv
      split at w1
      · rename_i k hk
        have tv := svs_view sv hk
        cases tv
        split at w1
        · rename_i v hv
          refine ⟨q, .int v, rfl, .inl ⟨kvV kv, Sum.inl k, Rd.of (sm.dAt x), rfl, ?_⟩, w1 _ G1 H1 x1 (sv_t sm (.int v))⟩
          rw [kv_look, hv]
          rfl
        · exact w1.elim
      · exact w1.elim
    · exact w.elim
  · exact w.elim
theorem wp_all {α : Type} {P : Nat → Nat → α → Prop} {X : Nat → Env → Addr → Prop} : ∀ {m : M α} {n : Nat}, (∀ p : Nat, wp m n (P p) X) → wp m n (fun n a => ∀ p, P p n a) X
  | .ret a, n, h => h
  | .draw m g, n, h => ⟨(h 0).1, (h 0).2.1, (h 0).2.2.1, fun r h0 h1 => wp_all fun p => (h p).2.2.2 r h0 h1⟩
  | .rz e C, n, h => h 0
  | .bad, n, h => h 0
/-- a def that makes a dict behind its first statement -/
def bodyD (i : Nat) (m1 : Env → M Out) (m2 : Addr → Env → M Out) (p : Addr) : Env → M Out := sSeq m1 fun e => m2 p (e.set i (.vv (.ref p)))
theorem run_evD {vs : List V} {N : List Str} {k i : Nat} {F : List Slot → M Rv} {m1 : Env → M Out} {m2 : Addr → Env → M Out} {t1 t2 : TS} {Q : VK} {E : XK} (h : spE K F k vs H Q E) (href : ∀ (ss : List Slot) (n : Nat) (P : Nat → Rv → Prop) (X : Nat → Env → Addr → Prop) (p : Addr), wp (F ss) n P X → wp (fnOf N.length (bodyD i m1 m2 p) ss) n P X)
    (h1 : ∀ f, SS K f (fun cls d _ H' => E cls d H') t1 m1) (h2 : ∀ f p, FpOk f p → SB K f p [] (fun cls d _ H' => E cls d H') t2 (m2 p)) : (tSeq t1 (tSeq (tAsg tDNewK (gName i)) t2)) { nx := fun _ H' => Q .non H', rt := Q } (start N vs) H := by
  obtain ⟨_, pu, n, G, ss, j, ak, w⟩ := h
  have s0 : Sem K ⟨pu, H, G⟩ n [] (ss ++ List.replicate (N.length - ss.length) .no) G H (start N vs) := by
    refine ⟨[], ?_, j⟩
    unfold L2.start
    rw [ak.len]
    exact re_start ak _
  have wa : ∀ p : Nat, wp (m1 (ss ++ List.replicate (N.length - ss.length) .no)) n (fun n' o => wp (match o with | .nx e' => m2 p (e'.set i (.vv (.ref p))) | o => .ret o) n' (fun n2 o2 => wp (outRv o2) n2 (fun n' r => ∀ v G2 H2, RVok K ⟨pu, H, G⟩ n' G2 H2 r v → Q v H2) (fun n' _ C => ∀ G2 H2 d, J K ⟨pu, H, G⟩ ⟨n', []⟩ G2 H2 → XO G2 C d → E (.ref (xCls C)) d H2)) (fun n' _ C => ∀ G2 H2 d, J K ⟨pu, H, G⟩ ⟨n', []⟩ G2 H2 → XO G2 C d → E (.ref (xCls C)) d H2)) (fun n' _ C => ∀ G2 H2 d, J K ⟨pu, H, G⟩ ⟨n', []⟩ G2 H2 → XO G2 C d → E (.ref (xCls C)) d H2) := fun p => wpb (wpb (href ss n _ _ p w))
  have xw : XW K ⟨pu, H, G⟩ (fun cls d _ H' => E cls d H') (fun n' _ C => ∀ G2 H2 d, J K ⟨pu, H, G⟩ ⟨n', []⟩ G2 H2 → XO G2 C d → E (.ref (xCls C)) d H2) := fun n' tmp e' G2 H2 σ2 C d s2 x xo => by
    obtain ⟨o, _, j2⟩ := s2
    exact x G2 H2 d (jsub j2 (List.nil_sublist _)) xo
  have fin : ∀ n' o, wp (outRv o) n' (fun n' r => ∀ v G2 H2, RVok K ⟨pu, H, G⟩ n' G2 H2 r v → Q v H2) (fun n' _ C => ∀ G2 H2 d, J K ⟨pu, H, G⟩ ⟨n', []⟩ G2 H2 → XO G2 C d → E (.ref (xCls C)) d H2) → ∀ G0, PO K ⟨pu, H, G⟩ G0 { nx := fun _ H' => Q .non H', rt := Q } n' o := fun n' o w' G0 => by
    cases o with
    | nx e' =>
      intro σ2 G2 H2 x s2
      obtain ⟨o, _, j2⟩ := s2
      exact w' .non G2 H2 ⟨jsub j2 (List.nil_sublist _), .non⟩
    | rt r => exact fun v G2 H2 x rv => w' v G2 H2 rv
    | bk e' => exact w'.elim
    | ct e' => exact w'.elim
  refine h1 ⟨pu, H, G⟩ n _ G H _ { nx := (tSeq (tAsg tDNewK (gName i)) t2) { nx := fun _ H' => Q .non H', rt := Q }, rt := Q } _ s0 xw (wp_imp (wp_all wa) fun n1 o w1 => ?_)
  cases o with
  | nx e1 =>
    intro σ1 G1 H1 x1 s1 p hp
    obtain ⟨fp, s2⟩ := s1.dNew hp
    exact h2 _ p fp n1 _ G1 _ _ _ _ s2.putV xw (wp_imp (w1 p) fun n2 o2 w2 => fin n2 o2 w2 G1)
  | rt r => exact fun v G2 H2 x rv => fin n1 (.rt r) (w1 0) G v G2 H2 x rv
  | bk e' => exact (w1 0).elim
  | ct e' => exact (w1 0).elim
end
end Ev

namespace Ev
open PySem L2 Evl Dl PySem.Spec PyProof.Rows
/-! ### isinstance(e, (A, B)) of a kept exception -/
def rIsXT (K : PySem.W.Frag) : List V → Hp → VK → Prop := fun xs H Q => ∃ (a D tp : Addr) (dd : Option Addr) (cs : List V) (cvs : List Value) (b : Bool), xs = [.ref a, .ref tp] ∧ H a = some (ExD (.ref D) dd a) ∧ HasD H dd ∧ ExcC K D ∧ SqT K H tp cs ∧ (∀ us, Vals cs us → us = cvs) ∧ PySem.W.kitAny K (.ref D) cvs = some b ∧ Q (.bl b) H
theorem cr_isXT {X : Cx} : CallR X (.builtin "isinstance") (rIsXT X.K) := by
  intro pins s σ H xs us Q I r h
  obtain ⟨a, D, tp, dd, cs, cvs, b, rfl, ha, hdd, C, ht, hcv, e, q⟩ := h
  match us, r with
  | [u1, u2], .cons r1 (.cons r2 .nil) =>
    cases r1
    cases r2
    obtain ⟨oe, ode, at1⟩ := exd_inst I ha hdd
    obtain ⟨us, r1, ⟨o2, g2, g3, n2, g4⟩, _⟩ := I.tuple ht
    rw [hcv us r1] at g4
    obtain ⟨oc, od, oda, osl⟩ := o2
    dsimp only at g3 g4
    subst g3 g4
    exact PySem.W.kia_tup (PySem.W.kitx_exc (cls_some C.hd) C.hg C.hk C.hs C.ha C.hn C.ht C.hm) I.kIn at1 g2 e (fun z => nomatch z) fun tk =>
      ⟨.bl b, H, I.kept (t' := tk) fun _ _ z => z, rfl, q⟩
section
variable {K : PySem.W.Frag} {f : Fx} {W : WX}
def anyK (g : V → Option Bool) : List V → Option Bool
  | [] => some false
  | c :: r => match g c with
    | some true => some true
    | some false => anyK g r
    | none => none
def eIsT (kx : Addr → V → Option Bool) (m : Env → M (Env × Dv)) (c d : V) : Env → M (Env × Dv) := fun e => (m e).bind fun p => match view p.1 p.2 with
  | some (.exc C) => match kx (xCls C) c, kx (xCls C) d with
    | some b, some b' => .ret (p.1, .t (.bl (b || b')))
    | _, _ => .bad
  | _ => .bad
theorem se_isT {te : TE} {m : Env → M (Env × Dv)} {kx : Addr → V → Option Bool} {c d : V} (hx : KX K kx) (h : SE K f W te m) : SE K f W (tCB (rIsXT K) (tCons te (tCons (tTupF (tCons (tC c) (tCons (tC d) tNil))) tNil))) (eIsT kx m c d) := fun n tmp e G H σ Q X s xw w => by
  refine h n tmp e G H σ _ X s xw (wp_imp (wpb w) fun n1 p w1 v G1 H1 x1 sv => ?_)
  have sm := svs_sem sv
  split at w1
  · rename_i C q
    have tz := svs_view sv q
    split at w1
    · rename_i b b' q1 q2
      obtain ⟨h1, cv, h2, h3⟩ := hx (xCls C) c b q1
      obtain ⟨_, dv, h4, h5⟩ := hx (xCls C) d b' q2
      refine ⟨show 2 ≤ sizeLine by decide, fun q ob ho hq => ?_⟩
      obtain ⟨s4, x4⟩ := sm.alloc (ob := .frz ob (.tup [c, d])) hq ho
      cases tz with
      | exc ha xo =>
        refine ⟨_, xCls C, q, _, [c, d], [cv, dv], b || b', rfl, ?_, (xo.mono (Ex.new hq)).has, h1, st_frz upd_same, fun us r => ?_, ?_, w1 _ _ _ (x1.trans x4) (sv_t s4 (.bl _))⟩
        · rw [upd_ne (ne_of_none ha hq)]
          exact ha
        · match us, r with
          | [u1, u2], .cons r1 (.cons r2 .nil) => rw [h2 _ r1, h4 _ r2]
        · simp only [PySem.W.kitAny, h3, h5]
          cases b <;> cases b' <;> rfl
    · exact w1.elim
  · exact w1.elim
end
end Ev

namespace Ev
open PySem L2 Evl Dl PySem.Spec PyProof.Rows
/-! ### == and str by a class of one's own -/
theorem pass_no {X : Cx} : Passes (L2.CX X.prog X.w) X E0 := fun _ _ _ _ _ _ _ c => by
  obtain ⟨_, _, _, _, _, _, _, _, _, _, _, _, h⟩ := c
  exact h.elim
def rEqO (C : Addr) (sp : Sp) : R2 := fun x y H Q => ∃ a b dx dy fs gs, x = .ref a ∧ y = .ref b ∧ H a = some (.ins C dx fs) ∧ H b = some (.ins C dy gs) ∧ sp [.ref a, .ref b] H (fun v H' => (∃ z, v = .bl z) ∧ Q v H') E0
def rNeO (C : Addr) (sp : Sp) : R2 := fun x y H Q => rEqO C sp x y H fun v H' => ∃ z, v = .bl z ∧ Q (.bl (!z)) H'
def rStrO (C : Addr) (sp : Sp) : List V → Hp → VK → Prop := fun xs H Q => ∃ a dx fs, xs = [.ref a] ∧ H a = some (.ins C dx fs) ∧ sp [.ref a] H (fun v H' => (∃ z, v = .str z) ∧ Q v H') E0
section
variable {X : Cx} {k : Nat} {f C : Addr} {fd : FuncData} {ps : List Str} {sp : Sp}
theorem op_eqO (F : FnOk X.prog X.w X.K X.mg X.base (L2.CX X.prog X.w) k f fd ps sp) (hm : Meth X.K C "__eq__" f) (hb : Binds X.K fd ps []) (hr : Room k X.A) : OpR X (compareOp .Eq) (rEqO C sp) := by
  intro pins s σ H x y v u Q I rx ry hq
  obtain ⟨a, b, dx, dy, fs, gs, rfl, rfl, ha, hb', h⟩ := hq
  cases rx
  cases ry
  obtain ⟨mA, J, _⟩ := ins_get I.hok ha
  obtain ⟨mB, J', _⟩ := ins_get I.hok hb'
  obtain ⟨od, J, _⟩ := J.look
  obtain ⟨od', J', _⟩ := J'.look
  obtain ⟨m, hF⟩ := I.fr
  show wpAny (model X.prog X.w) X.A (richCompare .Eq (.ref a) (.ref b)) (EP X pins σ Q) X.xe s
  refine PySem.W.cmp_K (op := .Eq) (tb := .ref C) hr.units0 hF I.ok.mod.kin J J'.type (by simp [PySem.W.notFirst]) hm.at_ hm.fn ?_
  refine wpAny_mono (run_fn (vs := [.ref a, .ref b]) (dvs := []) F hr hb .nil pass_no I (.cons rfl (.cons rfl .nil)) h) (fun v s' z => ?_) fun _ _ e => e
  obtain ⟨x, H', I', r, ⟨b, rfl⟩, q⟩ := z
  cases r
  exact ⟨.bl b, H', I', rfl, q⟩
theorem cr_strO (F : FnOk X.prog X.w X.K X.mg X.base (L2.CX X.prog X.w) k f fd ps sp) (hm : Meth X.K C "__str__" f) (hb : Binds X.K fd ps []) (hr : Room (k + 2) X.A) : CallR X (.type "str") (rStrO C sp) := by
  intro pins s σ H xs us Q I r h
  obtain ⟨a, dx, fs, rfl, ha, h⟩ := h
  match us, r with
  | [u1], .cons r1 .nil =>
    cases r1
    obtain ⟨mA, J, _⟩ := ins_get I.hok ha
    obtain ⟨od, J, _⟩ := J.look
    have hr2 : Room k X.A.in1.in1 := hr.in1.in1
    refine PySem.W.kso_call hr2.units0 I.kIn J hm.at_ hm.fn ?_
    have hl := F.len _ _ _ _ h
    refine wpAny_call (codeAny_mono (F.run X.A.in1.in1 X.stack s H ⟨[.ref a], []⟩ [.ref a] [.ref a] _ E0 hr2 I.env0.in1.in1 (by
      have := hb s [.ref a] I.kIn (by simpa using hl)
      simpa using this) (.cons rfl .nil) h) fun r s' hq => ?_)
    cases r with
    | error e => exact pass_no pins σ H s e s' I hq
    | ok fl =>
      cases fl with
      | ret w =>
        obtain ⟨z, H', I', rz, ⟨t, rfl⟩, q⟩ := I.after hq
        obtain ⟨tk, rfl⟩ := rz
        exact ⟨.str t, H', I', ⟨tk, rfl⟩, q⟩
      | next => exact False.elim hq
      | brk => exact False.elim hq
      | cont => exact False.elim hq
end
/-! ### in the evaluator -/
def isObjT (C : Addr) : Tr → Bool
  | .obj D _ _ => D == C
  | _ => false
def isBlT : Tr → Bool
  | .bl _ => true
  | _ => false
def isStT : Tr → Bool
  | .str _ => true
  | _ => false
def oOwn (C : Addr) (F : List Slot → M Rv) (k : Nat) (good : Tr → Bool) : Env → List Dv → M (Env × Dv) := fun e ds => match views e ds with
  | none => .bad
  | some xs => match slotsOf e ds with
    | none => .bad
    | some (_, ss) => if xs.all (isObjT C) = true ∧ ss.length = k then (noRz (F ss)).bind fun r => match r with
        | .t x => if good x = true ∧ scalT x = true then .ret (e, .t x) else .bad
        | _ => .bad
      else .bad
section
variable {K : PySem.W.Frag} {f : Fx} {W : WX} {n : Nat} {tmp : List (Addr × List En)} {e : Env} {G H : Hp} {σ : L2.St} {ds : List Dv} {vs : List V}
theorem own_ok {C : Addr} {F : List Slot → M Rv} {k : Nat} {good : Tr → Bool} {Q : VK} {X : Nat → Env → Addr → Prop} (svs : SVs K f n tmp e G H σ ds vs)
    (w : wp (oOwn C F k good e ds) n (fun n' r => ∀ v G' H', Ex G G' → SV K f n' tmp r.1 G' H' σ r.2 v → Q v H') X) : ∃ xs, TpAll K H vs xs ∧ xs.all (isObjT C) = true ∧ spE K F k vs H (fun v H' => (∃ x G', good x = true ∧ Tp K G' v x) ∧ Q v H') E0 := by
  unfold oOwn at w
  split at w
  · exact w.elim
  · rename_i xs q1
    obtain ⟨h1, _⟩ := svs_views svs q1
    split at w
    · exact w.elim
    · rename_i e2 ss q2
      split at w
      · rename_i hc
        refine ⟨xs, h1, hc.1, call_ok (W := wNo) (X := fun _ _ _ => False) svs q2 hc.2 (fun _ _ _ _ _ _ _ _ _ h _ => h) ?_⟩
        rw [wp_bind]
        refine wp_reRz.mpr ?_
        refine wp_imp (wp_noRz (wpb w)) fun n' r hr => ?_
        cases r with
        | t x =>
          dsimp only at hr
          split at hr
          · rename_i hg
            show wp (M.ret (if scalT x = true then e else e2, Dv.t x)) n' _ _
            rw [if_pos hg.2]
            intro v G' H' x1 sv
            exact ⟨⟨x, G', hg.1, (sv_t_iff.mp sv).1⟩, hr v G' H' x1 sv⟩
          · exact hr.elim
        | fr ts => exact hr.elim
      · exact w.elim
theorem spE_imp {F : List Slot → M Rv} {k : Nat} {Q Q' : VK} {E : XK} (h : spE K F k vs H Q E) (i : ∀ v H', Q v H' → Q' v H') : spE K F k vs H Q' E := by
  obtain ⟨h1, pu, m, G0, ss, h2, h3, h4⟩ := h
  exact ⟨h1, pu, m, G0, ss, h2, h3, wp_imp h4 fun n' r hr v G2 H2 z => i _ _ (hr v G2 H2 z)⟩
theorem os_eqO {C : Addr} {F : List Slot → M Rv} : OS K f W (fun _ vs H Q => ∃ x y, vs = [x, y] ∧ rEqO C (spE K F 2) x y H Q) (oOwn C F 2 isBlT) := fun n tmp e G H σ ds vs Q X s xw w => by
  obtain ⟨xs, h1, h2, h3⟩ := own_ok s w
  have hl := h3.1
  match vs, xs, hl, h1 with
  | [v1, v2], _, _, .cons a (.cons b .nil) =>
    simp only [List.all_cons, List.all_nil, Bool.and_true, Bool.and_eq_true] at h2
    cases a with
    | obj e1 _ _ =>
      cases b with
      | obj e2 _ _ =>
        obtain ⟨c1, c2⟩ := h2
        cases beq_iff_eq.mp c1
        cases beq_iff_eq.mp c2
        refine ⟨_, _, rfl, _, _, _, _, _, _, rfl, rfl, e1, e2, ?_⟩
        refine spE_imp h3 fun v H' z => ?_
        obtain ⟨⟨x, G', g, t⟩, q⟩ := z
        cases t with
        | bl b => exact ⟨⟨b, rfl⟩, q⟩
        | _ => cases g
      | _ => cases h2.2
    | _ => cases h2.1
theorem os_strO {C : Addr} {F : List Slot → M Rv} : OS K f W (fun _ => rStrO C (spE K F 1)) (oOwn C F 1 isStT) := fun n tmp e G H σ ds vs Q X s xw w => by
  obtain ⟨xs, h1, h2, h3⟩ := own_ok s w
  have hl := h3.1
  match vs, xs, hl, h1 with
  | [v1], _, _, .cons a .nil =>
    simp only [List.all_cons, List.all_nil, Bool.and_true] at h2
    cases a with
    | obj e1 _ _ =>
      cases beq_iff_eq.mp h2
      refine ⟨_, _, _, rfl, e1, ?_⟩
      refine spE_imp h3 fun v H' z => ?_
      obtain ⟨⟨x, G', g, t⟩, q⟩ := z
      cases t with
      | str b => exact ⟨⟨b, rfl⟩, q⟩
      | _ => cases g
    | _ => cases h2
end
/-! ### isinstance of an object of one's own -/
def ownB (K : PySem.W.Frag) (C : Addr) : Bool := PySem.W.plainGet K C "__class__" && (PySem.W.hasDictIn K C && ((PySem.W.findIn K (.ref C) "__class__" == some (some (.builtin "object.__class__"))) && ((PySem.W.specialIn K (.builtin "object.__class__") "__get__" == some (some (.builtin "getset_descriptor.__get__"))) && ((PySem.W.takesIn K (.builtin "object.__class__") == some true) && ((PySem.W.mroIn K C (.type "object") == some true) && (PySem.W.kitOne K (.ref C) (.ref C) == some true))))))
def rIsO (K : PySem.W.Frag) (C : Addr) : List V → Hp → VK → Prop := fun xs H Q => ∃ a dx fs, xs = [.ref a, .ref C] ∧ H a = some (.ins C dx fs) ∧ Q (.bl true) H
theorem cr_isO {X : Cx} {C : Addr} (hB : ownB X.K C = true) : CallR X (.builtin "isinstance") (rIsO X.K C) := by
  intro pins s σ H xs us Q I r h
  obtain ⟨a, dx, fs, rfl, ha, q⟩ := h
  match us, r with
  | [u1, u2], .cons r1 (.cons r2 .nil) =>
    cases r1
    cases r2
    unfold ownB at hB
    simp only [Bool.and_eq_true, beq_iff_eq] at hB
    obtain ⟨h1, h2, h3, h4, h5, h6, h7⟩ := hB
    obtain ⟨mA, J, _⟩ := ins_get I.hok ha
    obtain ⟨od, J, _⟩ := J.look
    exact PySem.W.kia_one (PySem.W.kitx_own h1 h2 h3 h4 h5 h6) I.kIn J h7 (fun z => nomatch z) fun tk =>
      ⟨.bl true, H, I.kept (t' := tk) fun _ _ z => z, rfl, q⟩
def oIsO (C : Addr) : Env → List Dv → M (Env × Dv) := fun e ds => match ds with
  | [d, .vv c] => match view e d, c with
    | some (.obj D _ _), .ref B => if D = C ∧ B = C then .ret (e, .t (.bl true)) else .bad
    | _, _ => .bad
  | _ => .bad
theorem os_isO {K : PySem.W.Frag} {f : Fx} {W : WX} {C : Addr} : OS K f W (fun _ => rIsO K C) (oIsO C) := fun n tmp e G H σ ds vs Q X s xw w => by
  unfold oIsO at w
  split at w
  · rename_i d c
    obtain ⟨v, u, rfl⟩ := vs2 s
    have sm := svs_sem s
    have hu : u = c := by
      obtain ⟨tm, dk, _⟩ := svs_tail s
      cases dk with
      | vv _ => rfl
    subst hu
    split at w
    · rename_i D _ _ B q
      have tz := svs_view s q
      split at w
      · rename_i hc
        obtain ⟨rfl, rfl⟩ := hc
        cases tz with
        | obj ha _ _ => exact ⟨_, _, _, rfl, ha, w _ G H (Ex.refl G) (sv_t sm (.bl _))⟩
      · exact w.elim
    · exact w.elim
  · exact w.elim
end Ev

namespace Ev
open PySem L2 Evl Dl PySem.Spec PyProof.Rows
/-! ### str of a number, where no guards are told -/
def rStrI : List V → Hp → VK → Prop := fun xs H Q => ∃ i : Int, xs = [.int i] ∧ i.natAbs.log2 < 1920 ∧ Q (.str (toString i)) H
theorem cr_strI {X : Cx} : CallR X (.type "str") rStrI := call_str_int
def numS (i : Int) : Str := Str.ofString (toString i)
def gStrI : Tr → Option Tr
  | .int i => if i.natAbs.log2 < 1920 then some (.str (numS i)) else none
  | _ => none
theorem os_strI {K : PySem.W.Frag} {f : Fx} {W : WX} : OS K f W (fun _ => rStrI) (o1 gStrI) := by
  refine os_pure (fun xs z h => ?_) (fun H σ vs xs z Q ht hz q => ?_)
  · split at h
    · rename_i x
      cases x with
      | int i =>
        simp only [gStrI] at h
        split at h
        · cases h; rfl
        · cases h
      | _ => cases h
    · cases h
  · split at hz
    · rename_i x
      cases ht with
      | cons a b =>
        cases b
        cases a with
        | int i =>
          simp only [gStrI] at hz
          split at hz
          · rename_i hl
            cases hz
            exact ⟨i, rfl, hl, q⟩
          · cases hz
        | _ => cases hz
    · cases hz
/-! ### joined numbers -/
open TL in
theorem numS_tl {i : Int} (h : 0 ≤ i) : tl (numS i) = numL i.toNat := by
  obtain ⟨m, rfl⟩ := Int.eq_ofNat_of_zero_le h
  exact tl_num m
open TL in
theorem numS_inj {i j : Int} (hi : 0 ≤ i) (hj : 0 ≤ j) (h : numS i = numS j) : i = j := by
  have e := congrArg tl h
  rw [numS_tl hi, numS_tl hj] at e
  have := numL_inj e
  omega
open TL in
theorem numS_len {i : Int} (hi : 0 ≤ i) (h : i < 10 ^ 30) : (numS i).length ≤ 30 := by
  rw [len_tl, numS_tl hi]
  exact numL_len (by decide) (by omega)
def numsS (ns : List Int) : Str := Txt.join " " (ns.map numS)
open TL in
theorem numsS_inj {ns ms : List Int} (hn : ∀ i ∈ ns, 0 ≤ i) (hm : ∀ i ∈ ms, 0 ≤ i) (h0 : ns ≠ []) (h1 : ms ≠ []) (h : numsS ns = numsS ms) : ns = ms := by
  have key : ∀ l : List Int, (∀ i ∈ l, 0 ≤ i) → l ≠ [] → Txt.split (Txt.join " " (l.map numS)) " " = l.map numS := fun l hl h0 =>
    split_join (s := 32) (S := []) (by decide +kernel) (by decide +kernel) (fun e => h0 (List.map_eq_nil_iff.mp e)) fun p hp => by
      obtain ⟨i, hi, rfl⟩ := List.mem_map.mp hp
      rw [numS_tl (hl i hi)]
      exact numL_free (.inl (by decide))
  have e : ns.map numS = ms.map numS := by
    rw [← key ns hn h0, ← key ms hm h1]
    exact congrArg (fun x => Txt.split x " ") h
  have inj : ∀ (a b : List Int), (∀ i ∈ a, 0 ≤ i) → (∀ i ∈ b, 0 ≤ i) → a.map numS = b.map numS → a = b := by
    intro a
    induction a with
    | nil =>
      intro b _ _ e
      cases b with
      | nil => rfl
      | cons y b => cases e
    | cons x a ih =>
      intro b ha hb e
      cases b with
      | nil => cases e
      | cons y b =>
        rw [List.map_cons, List.map_cons, List.cons.injEq] at e
        rw [numS_inj (ha x (List.mem_cons_self ..)) (hb y (List.mem_cons_self ..)) e.1, ih b (fun i m => ha i (List.mem_cons_of_mem _ m)) (fun i m => hb i (List.mem_cons_of_mem _ m)) e.2]
  exact inj ns ms hn hm e
theorem strs_map {α : Type} (g : α → Str) : ∀ l : List α, strsT (l.map fun x => Tr.str (g x)) = some (l.map g)
  | [] => rfl
  | x :: l => by simp [strsT, strs_map g l]
end Ev

namespace Ev
open PySem L2 Evl Dl PySem.Spec PyProof.Rows
/-! ### repr and len by a class of one's own -/
def rLenO (C : Addr) (sp : Sp) : List V → Hp → VK → Prop := fun xs H Q => ∃ a dx fs, xs = [.ref a] ∧ H a = some (.ins C dx fs) ∧ sp [.ref a] H (fun v H' => (∃ z : Int, v = .int z ∧ 0 ≤ z ∧ z < 2 ^ 63) ∧ Q v H') E0
section
variable {X : Cx} {k : Nat} {f C : Addr} {fd : FuncData} {ps : List Str} {sp : Sp}
theorem run_own {pins : List (Addr × Obj)} {σ : L2.St} {H : Hp} {s : Shared} {Q : VK} {a : Addr} (F : FnOk X.prog X.w X.K X.mg X.base (L2.CX X.prog X.w) k f fd ps sp) (hb : Binds X.K fd ps []) (hr : Room (k + 1) X.A) (I : L2.Inv X pins σ H s) (h : sp [.ref a] H Q E0) :
    wpAny (model X.prog X.w) X.A.in1 (call (.ref f) [.ref a]) (EP X pins σ Q) X.xe s := by
  have hr2 : Room k X.A.in1 := hr.in1
  have hl := F.len _ _ _ _ h
  refine wpAny_call (codeAny_mono (F.run X.A.in1 X.stack s H ⟨[.ref a], []⟩ [.ref a] [.ref a] _ E0 hr2 I.env0.in1 (by
    have := hb s [.ref a] I.kIn (by simpa using hl)
    simpa using this) (.cons rfl .nil) h) fun r s' hq => ?_)
  cases r with
  | error e => exact pass_no pins σ H s e s' I hq
  | ok fl =>
    cases fl with
    | ret w => exact I.after hq
    | next => exact False.elim hq
    | brk => exact False.elim hq
    | cont => exact False.elim hq
theorem cr_reprO (F : FnOk X.prog X.w X.K X.mg X.base (L2.CX X.prog X.w) k f fd ps sp) (hm : Meth X.K C "__repr__" f) (hb : Binds X.K fd ps []) (hr : Room (k + 1) X.A) : CallR X (.builtin "repr") (rStrO C sp) := by
  intro pins s σ H xs us Q I r h
  obtain ⟨a, dx, fs, rfl, ha, h⟩ := h
  match us, r with
  | [u1], .cons r1 .nil =>
    cases r1
    obtain ⟨mA, J, _⟩ := ins_get I.hok ha
    obtain ⟨od, J, _⟩ := J.look
    obtain ⟨m, hF⟩ := I.fr
    refine PySem.W.repr_K hr.in1.units0 hF I.ok.mod.kin J hm.at_ hm.fn ?_
    refine wpAny_mono (run_own F hb hr I h) (fun v s' z => ?_) fun _ _ e => e
    obtain ⟨x, H', I', r, ⟨t, rfl⟩, q⟩ := z
    obtain ⟨tk, rfl⟩ := r
    exact ⟨.str t, H', I', ⟨tk, rfl⟩, q⟩
theorem cr_lenO (F : FnOk X.prog X.w X.K X.mg X.base (L2.CX X.prog X.w) k f fd ps sp) (hm : Meth X.K C "__len__" f) (hb : Binds X.K fd ps []) (hr : Room (k + 1) X.A) : CallR X (.builtin "len") (rLenO C sp) := by
  intro pins s σ H xs us Q I r h
  obtain ⟨a, dx, fs, rfl, ha, h⟩ := h
  match us, r with
  | [u1], .cons r1 .nil =>
    cases r1
    obtain ⟨mA, J, _⟩ := ins_get I.hok ha
    obtain ⟨od, J, _⟩ := J.look
    obtain ⟨m, hF⟩ := I.fr
    refine PySem.W.len_K hF I.ok.mod.kin J hm.at_ hm.fn ?_
    refine wpAny_mono (run_own F hb hr I h) (fun v s' z => ?_) fun _ _ e => e
    obtain ⟨x, H', I', r, ⟨t, rfl, h0, h1⟩, q⟩ := z
    obtain ⟨tk, rfl⟩ := r
    exact ⟨⟨h0, h1⟩, .int t, H', I'.kept (t' := _) (fun _ _ z => z), ⟨_, rfl⟩, q⟩
end
def isLenT : Tr → Bool
  | .int z => decide (0 ≤ z) && decide (z < 1000000)
  | _ => false
theorem os_lenO {K : PySem.W.Frag} {f : Fx} {W : WX} {C : Addr} {F : List Slot → M Rv} : OS K f W (fun _ => rLenO C (spE K F 1)) (oOwn C F 1 isLenT) := fun n tmp e G H σ ds vs Q X s xw w => by
  obtain ⟨xs, h1, h2, h3⟩ := own_ok s w
  have hl := h3.1
  match vs, xs, hl, h1 with
  | [v1], _, _, .cons a .nil =>
    simp only [List.all_cons, List.all_nil, Bool.and_true] at h2
    cases a with
    | obj e1 _ _ =>
      cases beq_iff_eq.mp h2
      refine ⟨_, _, _, rfl, e1, ?_⟩
      refine spE_imp h3 fun v H' z => ?_
      obtain ⟨⟨x, G', g, t⟩, q⟩ := z
      cases t with
      | int b =>
        obtain ⟨g1, g2⟩ := Bool.and_eq_true_iff.mp g
        have g1 := of_decide_eq_true g1
        have g2 := of_decide_eq_true g2
        exact ⟨⟨b, rfl, g1, Int.lt_trans g2 (by decide)⟩, q⟩
      | _ => cases g
    | _ => cases h2
end Ev

namespace Ev
open PySem L2 Evl Dl PySem.Spec PyProof.Rows
/-! ### names that are told no more -/
def offE (js : List Nat) (e : Env) : Env := js.foldl (fun e j => e.set j .no) e
def offO (js : List Nat) : Out → Out
  | .nx e => .nx (offE js e)
  | .rt r => .rt r
  | .bk e => .bk (offE js e)
  | .ct e => .ct (offE js e)
section
variable {K : PySem.W.Frag} {f : Fx} {W : WX} {G G' H H' : Hp} {n : Nat} {σ : L2.St} {e : Env} {o r tm tmp : List (Addr × List En)} {p : Addr} {kv : KV}
theorem RE.off {j : Nat} (re : RE K f G σ e o) : ∃ o', RE K f G σ (e.set j .no) o' ∧ o'.Sublist o := by
  induction re generalizing j with
  | nil => exact ⟨[], .nil, .slnil⟩
  | no h ih =>
    cases j with
    | zero => exact ⟨_, .no h, .refl _⟩
    | succ j => obtain ⟨o', a, b⟩ := ih (j := j); exact ⟨o', .no a, b⟩
  | t x h ih =>
    cases j with
    | zero => exact ⟨_, .no h, .refl _⟩
    | succ j => obtain ⟨o', a, b⟩ := ih (j := j); exact ⟨o', .t x a, b⟩
  | live h ih =>
    cases j with
    | zero => exact ⟨_, .no h, .cons _ (.refl _)⟩
    | succ j => obtain ⟨o', a, b⟩ := ih (j := j); exact ⟨_, .live a, .cons₂ _ b⟩
  | vv h ih =>
    cases j with
    | zero => exact ⟨_, .no h, .refl _⟩
    | succ j => obtain ⟨o', a, b⟩ := ih (j := j); exact ⟨o', .vv a, b⟩
  | pu x h ih =>
    cases j with
    | zero => exact ⟨_, .no h, .refl _⟩
    | succ j => obtain ⟨o', a, b⟩ := ih (j := j); exact ⟨o', .pu x a, b⟩
theorem Sem.off1 {j : Nat} (s : Sem K f n tmp e G H σ) : Sem K f n tmp (e.set j .no) G H σ := by
  obtain ⟨o, re, jj⟩ := s
  obtain ⟨o', re', sb⟩ := re.off (j := j)
  exact ⟨o', re', jsub jj (List.Sublist.append_left sb tmp)⟩
theorem Sem.off {js : List Nat} (s : Sem K f n tmp e G H σ) : Sem K f n tmp (offE js e) G H σ := by
  induction js generalizing e with
  | nil => exact s
  | cons j js ih => exact ih s.off1
theorem PO.off {js : List Nat} {D : Ends} {o : Out} (h : PO K f G D n (offO js o)) : PO K f G D n o := by
  cases o with
  | nx e => exact fun σ G2 H2 x2 s => h σ G2 H2 x2 s.off
  | rt r => exact h
  | bk e => exact fun σ G2 H2 x2 s => h σ G2 H2 x2 s.off
  | ct e => exact fun σ G2 H2 x2 s => h σ G2 H2 x2 s.off
/-- a dict made within a def's statements: blk tells what it comes to, wherever it stands -/
theorem ss_blk {i : Nat} {t2 : TS} {m2 : Addr → Env → M Out} {blk : Env → M Out} (js : List Nat) (h2 : ∀ p, FpOk f p → SB K f p [] W t2 (m2 p))
    (href : ∀ (p : Addr) (e : Env) (n : Nat) (P : Nat → Out → Prop) (X : Nat → Env → Addr → Prop), wp (blk e) n P X → wp (m2 p (e.set i (.vv (.ref p)))) n (fun n o => P n (offO js o)) X) : SS K f W (tSeq (tAsg tDNewK (gName i)) t2) blk := fun n e G H σ D X s xw w => by
  intro p hp
  obtain ⟨fp, s2⟩ := s.dNew hp
  exact h2 p fp n _ G _ _ _ _ s2.putV xw (wp_imp (href p e n _ X w) fun n2 o2 w2 => w2.off)
/-! ### a def that is handed a dict -/
structure DicAt (f : Fx) (p : Addr) (kv : KV) : Prop where
  h0 : f.H0 p = some (.dK (kvV kv))
  np : ¬ isPu f p
theorem dic_at (h : DicAt f p kv) (s : Sem K f n tmp e G H σ) : H p = some (.dK (kvV kv)) := by
  obtain ⟨o, re, j⟩ := s
  exact j.fr p _ h.np h.h0
theorem se_dgetP {i : Nat} {ta : TE} {a : Env → M (Env × Dv)} (x : DicAt f p kv) (h : SE K f W ta a) : SE K f W (tDGet (tVar i) ta) (eDGet p kv i a) := fun n tmp e G H σ Q X s xw w => by
  unfold eDGet at w
  split at w
  · rename_i q hq
    split at w
    · rename_i hp
      subst hp
      obtain ⟨o, re, j⟩ := id s
      refine ⟨_, re.getV hq, h n tmp e G H σ _ X s xw (wp_imp (wpb w) fun n1 r w1 v G1 H1 x1 sv => ?_)⟩
      have sm := svs_sem sv
      split at w1
      · rename_i k hk
        have tv := svs_view sv hk
        cases tv
        split at w1
        · rename_i v hv
          refine ⟨q, .int v, rfl, .inl ⟨kvV kv, Sum.inl k, Rd.of (dic_at x sm), rfl, ?_⟩, w1 _ G1 H1 x1 (sv_t sm (.int v))⟩
          rw [kv_look, hv]
          rfl
        · exact w1.elim
      · exact w1.elim
    · exact w.elim
  · exact w.elim
def spED (K : PySem.W.Frag) (F : Addr → KV → List Slot → M Rv) (k : Nat) : Sp := fun vs H Q E => ∃ p kv, H p = some (.dK (kvV kv)) ∧ spE K (F p kv) k vs H Q E
theorem spED_len {F : Addr → KV → List Slot → M Rv} {k : Nat} (vs : List V) (H : Hp) (Q : VK) (E : XK) (h : spED K F k vs H Q E) : vs.length = k := by
  obtain ⟨p, kv, _, h⟩ := h
  exact h.1
theorem se_callD {F : Addr → KV → List Slot → M Rv} {k : Nat} {ta : TA} {a : Env → M (Env × List Dv)} (x : FpOk f p) (ha : SA K (protD f p kv) W ta a) : SE K (protD f p kv) W (tCallS (spED K F k) (WE W) ta) (evCall (F p kv) k a) := fun n tmp e G H σ Q X s xw w => by
  refine ha n tmp e G H σ _ X s xw (wp_imp (wpb w) fun n1 q w1 vs G1 H1 x1 svs => ?_)
  cases qq : slotsOf q.1 q.2 with
  | none => simp only [qq] at w1; exact w1.elim
  | some z =>
    obtain ⟨e2, ss⟩ := z
    simp only [qq] at w1
    split at w1
    · rename_i hk
      exact ⟨p, kv, (svs_sem svs).dAt x, call_ok svs qq hk xw (wp_imp w1 fun n' r hr v G' H' x => hr v G' H' (x1.trans x))⟩
    · exact w1.elim
theorem run_evP {N : List Str} {k : Nat} {body : Addr → KV → Env → M Out} {t : TS} {Q : VK} {E : XK} {vs : List V} (h : spED K (fun p kv => fnOf N.length (body p kv)) k vs H Q E) (hb : ∀ f p kv, DicAt f p kv → SS K f (fun cls d _ H' => E cls d H') t (body p kv)) : t { nx := fun _ H' => Q .non H', rt := Q } (start N vs) H := by
  obtain ⟨p, kv, hp, _, pu, n, G, ss, j, ak, w⟩ := h
  have s0 : Sem K ⟨pu, H, G⟩ n [] (ss ++ List.replicate (N.length - ss.length) .no) G H (start N vs) := by
    refine ⟨[], ?_, j⟩
    unfold L2.start
    rw [ak.len]
    exact re_start ak _
  have np : ¬ isPu ⟨pu, H, G⟩ p := by
    rintro ⟨q, c, e1, e2⟩
    obtain ⟨_, _, _, _, cs, t, q1, q2, _⟩ := j.pu q c e1
    rcases e2 with e2 | e2
    · rw [e2, q1] at hp; cases hp
    · rw [e2, q2] at hp; cases hp
  refine hb ⟨pu, H, G⟩ p kv ⟨hp, np⟩ n _ G H _ _ (fun n' _ C => ∀ G2 H2 d, J K ⟨pu, H, G⟩ ⟨n', []⟩ G2 H2 → XO G2 C d → E (.ref (xCls C)) d H2) s0 (fun n' tmp e' G2 H2 σ2 C d s2 x xo => ?_) (wp_imp (wpb w) fun n' o w' => ?_)
  · obtain ⟨o, _, j2⟩ := s2
    exact x G2 H2 d (jsub j2 (List.nil_sublist _)) xo
  · cases o with
    | nx e' =>
      intro σ2 G2 H2 x s2
      obtain ⟨o, _, j2⟩ := s2
      exact w' .non G2 H2 ⟨jsub j2 (List.nil_sublist _), .non⟩
    | rt r => exact fun v G2 H2 x rv => w' v G2 H2 rv
    | bk e' => exact w'.elim
    | ct e' => exact w'.elim
end
end Ev

namespace Ev
open PySem L2 Evl Dl PySem.Spec PyProof.Rows
section
variable {K : PySem.W.Frag} {f : Fx} {W : WX} {G G' H H' : Hp} {n : Nat} {σ : L2.St} {e : Env} {tmp : List (Addr × List En)}
/-! ### a <= b <= c -/
def rLeC : R2 := rI0 fun i j => .bl (decide (i ≤ j))
theorem op_leC {X : Cx} : OpR X (compareOp .LtE) rLeC := op_le
def eChain (a b c : Env → M (Env × Dv)) : Env → M (Env × Dv) := fun e => (a e).bind fun p => match p.2 with
  | .t (.int x) => (b p.1).bind fun q => match q.2 with
    | .t (.int y) => if x ≤ y then (c q.1).bind fun r => match r.2 with
        | .t (.int z) => .ret (r.1, .t (.bl (decide (y ≤ z))))
        | _ => .bad
      else .ret (q.1, .t (.bl false))
    | _ => .bad
  | _ => .bad
theorem se_chain {ta tb tc : TE} {a b c : Env → M (Env × Dv)} (ha : SE K f W ta a) (hb : SE K f W tb b) (hc : SE K f W tc c) : SE K f W (tChain rLeC rLeC ta tb tc) (eChain a b c) := fun n tmp e G H σ Q X s xw w => by
  refine ha n tmp e G H σ _ X s xw (wp_imp (wpb w) fun n1 p w1 v G1 H1 x1 sv => ?_)
  obtain ⟨e1, d1⟩ := p
  dsimp only at w1 sv
  split at w1
  · rename_i x
    obtain ⟨tk, s1⟩ := sv_t_iff.mp sv
    cases tk
    refine hb n1 tmp e1 G1 H1 σ _ X s1 xw (wp_imp (wpb w1) fun n2 p2 w2 u G2 H2 x2 sv2 => ?_)
    obtain ⟨e2, d2⟩ := p2
    dsimp only at w2 sv2
    split at w2
    · rename_i y
      obtain ⟨tk2, s2⟩ := sv_t_iff.mp sv2
      cases tk2
      refine ⟨x, y, rfl, rfl, decide (x ≤ y), rfl, ?_⟩
      split at w2
      · rename_i hxy
        rw [decide_eq_true hxy, if_pos rfl]
        refine hc n2 tmp e2 G2 H2 σ _ X s2 xw (wp_imp (wpb w2) fun n3 p3 w3 u3 G3 H3 x3 sv3 => ?_)
        obtain ⟨e3, d3⟩ := p3
        dsimp only at w3 sv3
        split at w3
        · rename_i z
          obtain ⟨tk3, s3⟩ := sv_t_iff.mp sv3
          cases tk3
          exact ⟨y, z, rfl, rfl, w3 _ G3 H3 ((x1.trans x2).trans x3) (sv_t s3 (.bl _))⟩
        · exact w3.elim
      · rename_i hxy
        rw [decide_eq_false hxy, if_neg Bool.false_ne_true]
        exact w2 _ G2 H2 (x1.trans x2) (sv_t s2 (.bl _))
    · exact w2.elim
  · exact w1.elim
/-! ### s.startswith(t), s.find(t), s.split(t) -/
def rStart : V → List V → Hp → VK → Prop := fun x xs H Q => ∃ a b, x = .str a ∧ xs = [.str b] ∧ Q (.bl (Txt.startswith a b)) H
theorem mt_start {X : Cx} : MtR X "str.startswith" rStart := mt_startswith
def rFindS : V → List V → Hp → VK → Prop := fun x xs H Q => ∃ a b, x = .str a ∧ xs = [.str b] ∧ Q (.int (Txt.find a b)) H
theorem mt_findS {X : Cx} : MtR X "str.find" rFindS := mt_find
def gStartS : Str → List Tr → Option Tr := fun a xs => match xs with
  | [.str b] => some (.bl (Txt.startswith a b))
  | _ => none
def gFindS : Str → List Tr → Option Tr := fun a xs => match xs with
  | [.str b] => some (.int (Txt.find a b))
  | _ => none
theorem se_start {to : TE} {ta : TA} {mo : Env → M (Env × Dv)} {ma : Env → M (Env × List Dv)} (ho : SE K f W to mo) (ha : SA K f W ta ma) : SE K f W (tBM K "str" rStart to ta) (eSM gStartS mo ma) := by
  refine se_sm (fun a xs z q => ?_) (fun H a vs xs z Q al q k => ?_) ho ha
  · unfold gStartS at q
    split at q
    · cases q; rfl
    · cases q
  · unfold gStartS at q
    split at q
    · rename_i b
      cases q
      cases al with
      | cons t1 al =>
        cases al
        cases t1
        exact ⟨a, b, rfl, rfl, k⟩
    · cases q
theorem se_find {to : TE} {ta : TA} {mo : Env → M (Env × Dv)} {ma : Env → M (Env × List Dv)} (ho : SE K f W to mo) (ha : SA K f W ta ma) : SE K f W (tBM K "str" rFindS to ta) (eSM gFindS mo ma) := by
  refine se_sm (fun a xs z q => ?_) (fun H a vs xs z Q al q k => ?_) ho ha
  · unfold gFindS at q
    split at q
    · cases q; rfl
    · cases q
  · unfold gFindS at q
    split at q
    · rename_i b
      cases q
      cases al with
      | cons t1 al =>
        cases al
        cases t1
        exact ⟨a, b, rfl, rfl, k⟩
    · cases q
def eSplitV (to : Env → M (Env × Dv)) (ta : Env → M (Env × List Dv)) : Env → M (Env × Dv) := fun e => (to e).bind fun p => match p.2 with
  | .t (.str a) => (ta p.1).bind fun q => match views q.1 q.2 with
    | some [.str b] => if b.length ≠ 0 ∧ a.length + 2 ≤ 100000 then .ret (q.1, .fr ((Txt.split a b).map .str)) else .bad
    | _ => .bad
  | _ => .bad
theorem se_splitV {to : TE} {ta : TA} {mo : Env → M (Env × Dv)} {ma : Env → M (Env × List Dv)} (ho : SE K f W to mo) (ha : SA K f W ta ma) : SE K f W (tBM K "str" rSplitS to ta) (eSplitV mo ma) := fun n tmp e G H σ Q X s xw w => by
  refine ho n tmp e G H σ _ X s xw (wp_imp (wpb w) fun n1 p w1 v G1 H1 x1 sv => ?_)
  obtain ⟨e1, d1⟩ := p
  dsimp only at w1 sv
  split at w1
  · rename_i a
    obtain ⟨tk, s1⟩ := sv_t_iff.mp sv
    cases tk
    refine ⟨rfl, ha n1 tmp e1 G1 H1 σ _ X s1 xw (wp_imp (wpb w1) fun n2 p2 w2 vs G2 H2 x2 svs => ?_)⟩
    split at w2
    · rename_i b q
      obtain ⟨al, sm⟩ := svs_views svs q
      split at w2
      · rename_i hc
        cases al with
        | cons t1 al =>
          cases al
          cases t1
          exact ⟨a, b, rfl, rfl, by simpa using hc.1, sz_of hc.2, fun q hq => w2 _ G2 _ (x1.trans x2) (sm.ownNew hq (tpa_strs _))⟩
      · exact w2.elim
    · exact w2.elim
  · exact w1.elim
/-! ### None in a list or a tuple of flat things -/
def rNinK (K : PySem.W.Frag) : R2 := rIn K false
theorem op_nin {X : Cx} : OpR X (compareOp .In) (rNinK X.K) := op_in_seq
def oNin : Env → List Dv → M (Env × Dv) := fun e ds => match ds with
  | [.t .non, d] => match seqv e d with
    | some (_, ts) => if ts.all scalT = true then .ret (e, .t (.bl (ts.any isNonT))) else .bad
    | none => .bad
  | _ => .bad
theorem flat_of {H : Hp} : ∀ {xs : List V} {ts : List Tr}, TpAll K H xs ts → ts.all scalT = true → xs.all flatV = true ∧ inV .non xs = ts.any isNonT
  | _, _, .nil, _ => ⟨rfl, rfl⟩
  | v :: xs, t :: ts, .cons a b, h => by
    obtain ⟨h1, h2⟩ := Bool.and_eq_true_iff.mp (show (scalT t && ts.all scalT) = true from h)
    obtain ⟨i1, i2⟩ := flat_of b h2
    have key : flatV v = true ∧ eqV v .non = isNonT t := by
      cases a <;> first | exact ⟨rfl, rfl⟩ | cases h1
    refine ⟨?_, ?_⟩
    · show (flatV v && xs.all flatV) = true
      rw [key.1, i1]
      rfl
    · show (eqV v .non || inV .non xs) = (isNonT t || ts.any isNonT)
      rw [key.2, i2]
theorem os_nin : OS K f W (R2S (rNinK K)) oNin := fun n tmp e G H σ ds vs Q X s xw w => by
  unfold oNin at w
  split at w
  · rename_i d
    obtain ⟨v, u, rfl⟩ := vs2 s
    have t1 := svs_view s rfl
    cases t1
    split at w
    · rename_i b ts q
      have sm := svs_sem s
      obtain ⟨a, xs, rfl, sq, al⟩ := svs_seq (svs_tail s) q
      split at w
      · rename_i hc
        obtain ⟨f1, f2⟩ := flat_of (al.mono sm.ex) hc
        refine ⟨_, _, rfl, a, xs, rfl, ?_, rfl, f1, ?_⟩
        · cases b with
          | true => exact .inr sq
          | false => exact .inl (sq_of sq)
        · show Q (.bl (inV .non xs)) H
          rw [f2]
          exact w _ G H (Ex.refl G) (sv_t sm (.bl _))
      · exact w.elim
    · exact w.elim
  · exact w.elim
/-! ### x //= e -/
def ipDiv : TIp := fun x y H Q => ∃ i j, x = .int i ∧ y = .int j ∧ CDivW i j ∧ Q (.int (i / j)) H
theorem ip_fdiv {X : Cx} : PIp X .FloorDiv ipDiv := fun pins s σ H x y v u Q I r1 r2 h => by
  obtain ⟨i, j, rfl, rfl, hc, q⟩ := h
  exact iop_fdivW pins s σ H _ _ v u Q I r1 r2 ⟨i, j, rfl, rfl, hc, q⟩
def sAugD (i : Nat) (a : Env → M (Env × Dv)) : Env → M Out := fun e => match e[i]? with
  | some (.t (.int x)) => (a e).bind fun p => match p.2 with
    | .t (.int y) => if cDiv x y = true then .ret (.nx (p.1.set i (.t (.int (x / y))))) else .bad
    | _ => .bad
  | _ => .bad
theorem ss_augD {i : Nat} {te : TE} {a : Env → M (Env × Dv)} (ha : SE K f W te a) : SS K f W (tAug i te ipDiv) (sAugD i a) := fun n e G H σ D X s xw w => by
  unfold sAugD at w
  split at w
  · rename_i x q
    obtain ⟨o, re, j⟩ := s
    obtain ⟨v, hv, tp⟩ := re.getT q
    cases tp
    refine ⟨_, hv, ha n [] e G H σ _ X ⟨o, re, j⟩ xw (wp_imp (wpb w) fun n1 p w1 u G1 H1 x1 sv => ?_)⟩
    obtain ⟨e1, d⟩ := p
    dsimp only at w1 sv
    split at w1
    · rename_i y
      obtain ⟨tk, s1⟩ := sv_t_iff.mp sv
      cases tk
      split at w1
      · rename_i hc
        obtain ⟨a1, a2⟩ := Bool.and_eq_true_iff.mp hc
        exact ⟨x, y, rfl, rfl, ⟨of_decide_eq_true a1, of_decide_eq_true a2⟩, w1 _ G1 H1 x1 (s1.putT (.int _))⟩
      · exact w1.elim
    · exact w1.elim
  · exact w.elim
end
/-! ### defaults behind what is told -/
section
variable {K : PySem.W.Frag} {x qual : Str} {params : Arguments} {body : List Stmt} {scope : Scope} {dvs : List V} {f : Addr} {fd : FuncData} {ps ks : List Str}
theorem kbindsP (F : FunD K x qual params body scope dvs [] f fd) (hd : dvs ≠ []) (m : Nat) (hl : m + dvs.length = ps.length)
    (h : ∀ (T : Addr) (kV doc pm : Value) (an : Option Addr) (cdv ct : Value) (us its : List Value), us.length = m → its.length = dvs.length →
      ∃ k, bindArgs (PySem.W.fnOf x qual params body scope (.ref T) kV doc pm an cdv ct) ⟨us, []⟩ = seqItems? (.ref T) >>= k ∧ k (some its.toArray) = pure (ps.zip (us ++ its))) : ∃ g, KBinds K fd ps [] g (fun vs _ => vs ++ dvs) := by
  obtain ⟨oc, od, dV, kV, doc, pm, an, cdv, ct, osl, rfl, lk, hcd, hD, hK⟩ := F.ex
  rcases hD with ⟨e, _⟩ | ⟨_, T, o, its, m', rfl, lT, oT, rT⟩
  · exact absurd e hd
  · refine ⟨fun us _ => us ++ its, fun s us ws X hlen => ?_, fun h1 h2 => h1.append rT⟩
    have e0 : us.length = m := by
      rw [List.length_append, ← rT.length] at hlen
      omega
    obtain ⟨k, e1, e2⟩ := h T kV doc pm an cdv ct us its e0 rT.length.symm
    refine BindsTo.of_looks fun M => ?_
    rw [List.zip_nil_left, e1]
    exact looks_items X lT oT (.of_pure e2)
def kQ (m : Nat) (its : List Value) : List Value → List Value → List Value := fun us ws => if us.length = 0 ∧ ws.length = m then ws ++ its else []
def kQV (m : Nat) (dvs : List V) : List V → List V → List V := fun vs zs => if vs.length = 0 ∧ zs.length = m then zs ++ dvs else []
theorem kbindsQ (F : FunD K x qual params body scope dvs [] f fd) (hd : dvs ≠ []) (hp : ps ≠ [])
    (h : ∀ (T : Addr) (kV doc pm : Value) (an : Option Addr) (cdv ct : Value) (ws its : List Value), ws.length = ks.length → its.length = dvs.length →
      ∃ k, bindArgs (PySem.W.fnOf x qual params body scope (.ref T) kV doc pm an cdv ct) ⟨[], ks.zip ws⟩ = seqItems? (.ref T) >>= k ∧ k (some its.toArray) = pure (ps.zip (ws ++ its))) : ∃ g, KBinds K fd ps ks g (kQV ks.length dvs) := by
  obtain ⟨oc, od, dV, kV, doc, pm, an, cdv, ct, osl, rfl, lk, hcd, hD, hK⟩ := F.ex
  rcases hD with ⟨e, _⟩ | ⟨_, T, o, its, m', rfl, lT, oT, rT⟩
  · exact absurd e hd
  · refine ⟨kQ ks.length its, fun s us ws X hlen => ?_, fun {vs us zs ws} h1 h2 => ?_⟩
    · unfold kQ at hlen ⊢
      split at hlen
      · rename_i hc
        rw [if_pos hc]
        have e0 : us = [] := List.eq_nil_of_length_eq_zero hc.1
        subst e0
        obtain ⟨k, e1, e2⟩ := h T kV doc pm an cdv ct ws its hc.2 rT.length.symm
        refine BindsTo.of_looks fun M => ?_
        rw [e1]
        exact looks_items X lT oT (.of_pure e2)
      · exact absurd (List.eq_nil_of_length_eq_zero hlen.symm) hp
    · unfold kQ kQV
      rw [h1.length, h2.length]
      split
      · exact h2.append rT
      · exact .nil
def kQD (m : Nat) (dd : List Dv) : List Dv → List Dv → List Dv := fun ds es => if ds.length = 0 ∧ es.length = m then es ++ dd else []
def kPV (dvs : List V) : List V → List V → List V := fun vs _ => vs ++ dvs
def kPD (dd : List Dv) : List Dv → List Dv → List Dv := fun ds _ => ds ++ dd
theorem kg_P1 (i : Int) : KG (kPV [.int i]) (kPD [.t (.int i)]) := fun K f G σ ds es vs zs tm tm2 h1 h2 => ⟨_, h1.cat (.t (.int _) .nil), _, .refl _, by rw [List.append_nil]; exact List.sublist_append_left _ _⟩
theorem kg_Q1 (m : Nat) (i : Int) : KG (kQV m [.int i]) (kQD m [.t (.int i)]) := fun K f G σ ds es vs zs tm tm2 h1 h2 => by
  unfold kQV kQD
  rw [h1.len, h2.len]
  split
  · rename_i hc
    have e0 : ds = [] := List.eq_nil_of_length_eq_zero (h1.len.trans hc.1)
    subst e0
    cases h1
    exact ⟨_, h2.cat (.t (.int _) .nil), _, .refl _, by simp⟩
  · exact ⟨[], .nil, [], .refl _, List.nil_sublist _⟩
end
end Ev

namespace Ev
open PySem L2 Evl Dl PySem.Spec PyProof.Rows
/-! ### defs that are called where no repr is under way -/
structure FnG (P : Program) (w : World) (K : PySem.W.Frag) (mg : Str → Option Value) (base : Heap) (CX : CXT) (k : Nat) (f : Addr) (fd : FuncData) (ps : List Str) (sp : Sp) : Prop where
  ln : ∀ vs H Q E, sp vs H Q E → vs.length = ps.length
  go : ∀ (A : Around) (out : List PySem.Env) (s : Shared) (H : Hp) (ar : Args) (us : List Value) (vs : List V) (Q : VK) (E : XK), A.guards = some [] → Room k A → Env0 P w K mg base A out s H → BindsTo s fd ar (ps.zip us) → Vals vs us → sp vs H Q E → codeAny (model P w) A (.call (.ref f) ar) (CR CX out P w H s Q E) s
section
variable {P : Program} {w : World} {K : PySem.W.Frag} {mg : Str → Option Value} {base : Heap}
theorem Fun.okG {x qual : Str} {st : Stmt} {f : Addr} {fd : FuncData} {N ps : List Str} {k : Nat} {sp : Sp} (F : Fun K x qual st f fd) (S : FnScope N ps (defScope st)) (ln : ∀ vs H Q E, sp vs H Q E → vs.length = ps.length)
    (hB : ∀ (cd : Value) (A : Around) (out : List PySem.Env) (s : Shared) (H : Hp) (vs : List V) (Q : VK) (E : XK), (A.deeper (envOfC qual (defScope st) s.heap.objs.size f cd)).guards = some [] → Room k (A.deeper (envOfC qual (defScope st) s.heap.objs.size f cd)) → sp vs H Q E →
      ∃ t, PSs (cxOf (L2.CX P w) P w K mg base N qual (defScope st) f cd A out s H E) (defBody st) t ∧ t { nx := fun _ H' => Q .non H', rt := Q } (L2.start N vs) H) : FnG P w K mg base (L2.CX P w) (k + 1) f fd ps sp := by
  obtain ⟨oc, od, kV, doc, pm, an, cd, ct, osl, rfl, lk, hcd⟩ := F.ex
  refine ⟨ln, fun A out s H ar us vs Q E hg rm en bd rl hs => ?_⟩
  have lv := ln _ _ _ _ hs
  have kin : K.In s.heap := en.mod.kin.keeps fun b o q => (en.bs b o q).1
  have nol : s.heap.NoLimit := en.mod.nolimit.keeps fun b o q => (en.bs b o q).1
  have kd : ∀ y ∈ ps.zip us, (defScope st).names.lookup y.1 = some .local ∨ ((defScope st).names.lookup y.1 = some .cell ∧ ((cellsFrom (s.heap.objs.size + 1) (defScope st).names []).lookup y.1).isSome = true) := fun ⟨nm, v⟩ hy =>
    (S.par nm (List.of_mem_zip hy).1).elim .inl fun q => .inr ⟨q, PySem.W.cellsFrom_some _ _ _ (.inl q)⟩
  refine codeAny_call_function rm.depth (kin _ _ lk) rfl S.co S.gen rfl (PySem.W.codeRec_of kin hcd) (bd _ _ _ _ (wpAny_newFunctionEnv_cells S.kind kd fun ev ee s1 call => ?_))
  subst ee
  obtain ⟨t, body, holds⟩ := hB cd A out s H vs Q E hg (rm.deeper _) hs
  refine ⟨nol.keeps call.toInCall.keep, codeAny_func (wpAny_mono (body.run [] s1 (L2.start N vs) H _ (inv_start S rm.hd en lv rl call) holds) (fun fl s2 done => ?_) fun er s2 bad => bad)⟩
  have close : ∀ {τ : L2.St} {H2 : Hp} {v : V} {u : Value}, L2.Inv (cxOf (L2.CX P w) P w K mg base N qual (defScope st) f cd A out s H E) [] τ H2 s2 → RelV v u → Q v H2 → CE out P w H s Q u s2 := fun {τ H2 v u} j r q => ⟨v, H2, j.os, j.bare, j.base, j.hok, r, q⟩
  match fl, done with
  | .ret u, ⟨v, τ, H2, j, r, q⟩ => exact close j r q
  | .next, ⟨τ, H2, j, q⟩ => exact close (v := V.non) (u := Value.none) j rfl q
  | .brk, ⟨_, _, _, q⟩ => exact q.elim
  | .cont, ⟨_, _, _, q⟩ => exact q.elim
theorem FnG.imp {CX : CXT} {k : Nat} {f : Addr} {fd : FuncData} {ps : List Str} {sp : Sp} {j : Nat} (F : FnG P w K mg base CX j f fd ps sp) (h : j ≤ k) : FnG P w K mg base CX k f fd ps sp := ⟨F.ln, fun A out s H ar us vs Q E hg rm => F.go A out s H ar us vs Q E hg (rm.mono h)⟩
end
section
variable {X : Cx} {CX : CXT} {k : Nat} {f : Addr} {fd : FuncData} {ps : List Str} {sp : Sp} {x : Str} {p pos : Pos} {E : L2.St → XK} {t : TA} {e : Expr} {es : List Expr}
theorem run_G {A : Around} {pins : List (Addr × Obj)} {σ : L2.St} {H : Hp} {s : Shared} {Q : VK} {us : List Value} {vs : List V} (F : FnG X.prog X.w X.K X.mg X.base CX k f fd ps sp) (hg : A.guards = some []) (hr : Room k A) (en : L2.Inv X pins σ H s → Env0 X.prog X.w X.K X.mg X.base A X.stack s H) (hb : Binds X.K fd ps []) (hx : PassesAt CX X σ (E σ))
    (I : L2.Inv X pins σ H s) (r : Vals vs us) (h : sp vs H Q (E σ)) : wpAny (model X.prog X.w) A (call (.ref f) us) (EP X pins σ Q) X.xe s := by
  have hl : us.length = ps.length := r.length ▸ F.ln _ _ _ _ h
  have bd := hb s us I.kIn (by rw [List.append_nil]; exact hl)
  rw [List.append_nil] at bd
  refine wpAny_call (codeAny_mono (F.go A X.stack s H ⟨us, []⟩ us vs Q (E σ) hg hr (en I) bd r h) fun out s2 z => ?_)
  match out, z with
  | .error er, z => exact hx pins H s er s2 I z
  | .ok (.ret u), z => exact I.after z
  | .ok .next, z => exact z.elim
  | .ok .brk, z => exact z.elim
  | .ok .cont, z => exact z.elim
theorem pe_callG (F : FnG X.prog X.w X.K X.mg X.base CX k f fd ps sp) (hg0 : X.A.guards = some []) (hr : Room k X.A) (hg : Gl X x) (hm : X.mg x = some (.ref f)) (hk : PySem.W.keepIn X.K (.ref f) = true) (hb : Binds X.K fd ps []) (hx : ∀ σ, PassesAt CX X σ (E σ))
    (ha : PA X (e :: es) t) (hdb : (x == ("__debug__" : Str)) = false := by decide) (he : starEach (e :: es) X.env = (false, eval e X.env) :: starEach es X.env := by rfl) (hpl : (backTo pos (starEach es X.env)).any (·.1) = false := by rfl) : PE X (.Call (.Name x p) (e :: es) [] pos) (tCallS sp E t) :=
  ⟨fun pins s σ H Q I h => wpAny_Call_Name_kw (ld_glob I hg hm (PySem.W.callWith_K (h₀ := X.base) I.ok.mod.kin hk (thn (ha.run pos pins s σ H _ I h) fun us s1 ⟨vs, H1, I1, r, q⟩ => ⟨I1.kIn, run_G F hg0 hr (fun I => I.env0) hb (hx σ) I1 r q⟩) he hpl) hdb)⟩
end
/-! ### repr of an object by its own __repr__, where no repr is under way -/
section
variable {X : Cx} {k : Nat} {f C : Addr} {fd : FuncData} {ps : List Str} {sp : Sp}
theorem cr_reprG (hg : X.A.guards = some []) (F : FnG X.prog X.w X.K X.mg X.base (L2.CX X.prog X.w) k f fd ps sp) (hm : Meth X.K C "__repr__" f) (hb : Binds X.K fd ps []) (hr : Room (k + 1) X.A) : CallR X (.builtin "repr") (rStrO C sp) := by
  intro pins s σ H xs us Q I r h
  obtain ⟨a, dx, fs, rfl, ha, h⟩ := h
  match us, r with
  | [u1], .cons r1 .nil =>
    cases r1
    obtain ⟨mA, J, _⟩ := ins_get I.hok ha
    obtain ⟨od, J, _⟩ := J.look
    obtain ⟨m, hF⟩ := I.fr
    refine PySem.W.repr_K hr.in1.units0 hF I.ok.mod.kin J hm.at_ hm.fn ?_
    refine wpAny_mono (run_G (E := fun _ => E0) (us := [.ref a]) (vs := [.ref a]) F (show X.A.in1.guards = some [] from hg) hr.in1 (fun I => I.env0.in1) hb (fun pins H s e s' => pass_no pins σ H s e s') I (.cons rfl .nil) h) (fun v s' z => ?_) fun _ _ e => e
    obtain ⟨x, H', I', r, ⟨t, rfl⟩, q⟩ := z
    obtain ⟨tk, rfl⟩ := r
    exact ⟨.str t, H', I', ⟨tk, rfl⟩, q⟩
end
/-! ### f"..{e!r}..", e a list or a tuple of data -/
def tFmtD (K : PySem.W.Frag) (te : TE) : TE := fun σ H Q => te σ H fun x H1 => ∃ (a : Addr) (d : PyData), x = .ref a ∧ Dp K H1 (.ref a) d ∧ okN 4 d = true ∧ Q (.str d.shown) H1
theorem pe_fmtD {X : Cx} {e : Expr} {te : TE} {pos : Pos} (hg : X.A.guards = some []) (hu : X.A.units + 64 < cLine) (he : PE X e te) : PE X (.FormattedValue e 114 none pos) (tFmtD X.K te) := by
  refine ⟨fun pins s σ H Q I h => ?_⟩
  refine wpAny_FormattedValue_repr (thn (he.run pins s σ H _ I h) fun v s1 hv => ?_)
  obtain ⟨x, H1, I1, r1, a, d, rfl, hd, ok, q⟩ := hv
  cases r1
  obtain ⟨h1, h2, h3, h4⟩ := okN_ok 4 d ok
  obtain ⟨as, rd⟩ := Dp.reads I1 d (.ref a) _ hd rfl
  have b4 : bN 4 ≤ sizeLine := by decide
  refine PySem.pyReprObj_of_reads (h₀ := s1.heap) rd h1 (PyData.noDict_hsm (PyData.hasDict_of_canLay d h2)) hg (by omega) (fun _ _ z => z) (fun h' t tk hk => ?_) (Nat.le_trans h4 b4)
  refine PySem.wpAny_formatField_str ?_ ?_ (Nat.le_trans h4 b4)
  · exact ⟨.str d.shown, H1, I1.kept hk, ⟨_, rfl⟩, q⟩
  · exact ⟨.str d.shown, H1, (I1.kept hk).tok _, ⟨_, rfl⟩, q⟩
section
variable {K : PySem.W.Frag} {f : Fx} {W : WX}
def eFmt (a b : Str) (m : Env → M (Env × Dv)) : Env → M (Env × Dv) := fun e => (m e).bind fun p => match view p.1 p.2 with
  | some (.tup ts) => if (okT 20 (.tup ts) && okN 4 (toD (.tup ts))) = true ∧ a.length + (toD (.tup ts)).shown.length + b.length ≤ 100000 ∧ (toD (.tup ts)).shown.length ≤ 100000 then .ret (p.1, .t (.str ((Str.empty ++ a) ++ (toD (.tup ts)).shown ++ b))) else .bad
  | _ => .bad
theorem se_fmt {te : TE} {m : Env → M (Env × Dv)} {a b : Str} (ha : a.length ≤ 1000) (hb : b.length ≤ 1000) (h : SE K f W te m) : SE K f W (fun σ H Q => tJs [tC (.str a), tFmtD K te, tC (.str b)] Str.empty σ H fun out H1 => Q (.str out) H1) (eFmt a b m) := fun n tmp e G H σ Q X s xw w => by
  have e0 : (Str.empty).length = 0 := rfl
  have z0 : 200000 ≤ sizeLine := by rw [sizeLine_eq]; decide
  refine ⟨a, rfl, by rw [strLen_append, e0]; omega, ?_⟩
  refine h n tmp e G H σ _ X s xw (wp_imp (wpb w) fun n1 p w1 v G1 H1 x1 sv => ?_)
  have sm := svs_sem sv
  split at w1
  · rename_i ts q
    have tz := svs_view sv q
    split at w1
    · rename_i hc
      obtain ⟨hc1, hc2, hc3⟩ := hc
      obtain ⟨ok1, ok2⟩ := Bool.and_eq_true_iff.mp hc1
      have dp := tp_dp tz ok1
      cases tz with
      | tup sq al =>
        refine ⟨_, _, rfl, dp, ok2, _, rfl, by rw [strLen_append, strLen_append, e0]; omega, b, rfl, by rw [strLen_append, strLen_append, strLen_append, e0]; omega, ?_⟩
        exact w1 _ G1 H1 x1 (sv_t sm (.str _))
    · exact w1.elim
  · exact w1.elim
end
end Ev

namespace Ev
open PySem L2 Evl Dl PySem.Spec PyProof.Rows
/-! ### a call of an own method of two things, a builtin further in -/
section
variable {X : Cx} {k : Nat} {f C : Addr} {fd : FuncData} {ps : List Str} {sp : Sp}
theorem run_own2 {pins : List (Addr × Obj)} {σ : L2.St} {H : Hp} {s : Shared} {Q : VK} {a b : Addr} (F : FnOk X.prog X.w X.K X.mg X.base (L2.CX X.prog X.w) k f fd ps sp) (hb : Binds X.K fd ps []) (hr : Room (k + 1) X.A) (I : L2.Inv X pins σ H s) (h : sp [.ref a, .ref b] H Q E0) :
    wpAny (model X.prog X.w) X.A.in1 (call (.ref f) [.ref a, .ref b]) (EP X pins σ Q) X.xe s := by
  have hr2 : Room k X.A.in1 := hr.in1
  have hl := F.len _ _ _ _ h
  refine wpAny_call (codeAny_mono (F.run X.A.in1 X.stack s H ⟨[.ref a, .ref b], []⟩ [.ref a, .ref b] [.ref a, .ref b] _ E0 hr2 I.env0.in1 (by
    have := hb s [.ref a, .ref b] I.kIn (by simpa using hl)
    simpa using this) (.cons rfl (.cons rfl .nil)) h) fun r s' hq => ?_)
  cases r with
  | error e => exact pass_no pins σ H s e s' I hq
  | ok fl =>
    cases fl with
    | ret w => exact I.after hq
    | next => exact False.elim hq
    | brk => exact False.elim hq
    | cont => exact False.elim hq
/-! ### a != b by an own __eq__ -/
def neB (K : PySem.W.Frag) (C f : Addr) : Bool := match K.lookup C with
  | some ⟨.type "type", _, .cls cd, sl⟩ => (match cd.mro, sl.toList with
    | [.ref C', .type "object"], [_, _, _, _, some (.builtin n), _] => C' == C && !cd.hasDel && PySem.W.nsOkIn K cd.ns && PySem.W.nsIn K cd.ns "__eq__" == some (some (.ref f)) && PySem.W.nsIn K cd.ns "__ne__" == some none && PySem.W.isFn K (.ref f)
    | _, _ => false)
  | _ => false
theorem ns_some {K : PySem.W.Frag} {h : Heap} {N : Addr} {mg : Str → Option Value} {n : Str} {v : Value} (X : K.In h) (G : h.Ns N mg) (e : PySem.W.nsIn K N n = some (some v)) : mg n = some v := by
  obtain ⟨o, es, ep, ho, hd, _, hf⟩ := G
  unfold PySem.W.nsIn at e
  split at e
  · rename_i c d es' n' sl q
    have := X _ _ q
    rw [ho] at this
    cases this
    cases hd
    split at e
    · rename_i en he
      cases e
      rw [← hf]
      unfold nsFind findBy
      rw [← Array.find?_toList, he]
      rfl
    · split at e <;> cases e
  · cases e
theorem own_ne {h : Heap} {x : Addr} {ox : Obj} (XK : X.K.In h) (hq : neB X.K C f = true) (hx : h.get? x = some ox) (hc : ox.cls = .ref C) : h.OwnEqNoNe x C f "object" [.type "object"] := by
  unfold neB at hq
  split at hq
  · rename_i dd cd sl ho
    split at hq
    · rename_i C' k0 k1 k2 k3 n k5 hm hs
      simp only [Bool.and_eq_true, beq_iff_eq, Bool.not_eq_true'] at hq
      obtain ⟨⟨⟨⟨⟨rfl, hdel⟩, hok⟩, he⟩, hne⟩, hf⟩ := hq
      obtain ⟨nm, bs, mro, ns, qn, hd, sn, sub, ab, col, del⟩ := cd
      dsimp only at hm hdel hok he hne
      subst hm hdel
      have hsl : sl = #[k0, k1, k2, k3, some (.builtin n), k5] := by
        obtain ⟨l⟩ := sl
        simp only at hs
        rw [hs]
      subst hsl
      obtain ⟨of, hof, hfc⟩ := Option.map_eq_some_iff.mp (show (X.K.lookup f).map (·.cls) = some (.type "function") from beq_iff_eq.mp hf)
      exact ⟨ox, of, nm, qn, ns, bs, hd, sn, sub, ab, col, dd, k0, k1, k2, k3, k5, n, _, _, hx, hc, XK _ _ ho, .of_isNs (PySem.W.isNs_of_in XK hok), ns_some XK (.of_isNs (PySem.W.isNs_of_in XK hok)) he, XK _ _ hof, hfc, PySem.F.mro_object, PySem.F.cmp_object.eq.lookup, PySem.W.nsMap_none_of_in XK hok hne⟩
    · cases hq
  · cases hq
theorem op_neO (F : FnOk X.prog X.w X.K X.mg X.base (L2.CX X.prog X.w) k f fd ps sp) (hq : neB X.K C f = true) (hb : Binds X.K fd ps []) (hr : Room (k + 1) X.A) : OpR X (compareOp .NotEq) (rNeO C sp) := by
  intro pins s σ H x y v u Q I rx ry h
  obtain ⟨a, b, dx, dy, fs, gs, rfl, rfl, ha, hb', h⟩ := h
  cases rx
  cases ry
  obtain ⟨mA, J, _⟩ := ins_get I.hok ha
  obtain ⟨mB, J', _⟩ := ins_get I.hok hb'
  obtain ⟨od, J, _⟩ := J.look
  obtain ⟨od', J', _⟩ := J'.look
  refine compareOp_ne_ownEq PySem.F.cmp_object (own_ne I.kIn hq J.at_ J.cls) J'.at_ J'.cls (by have := hr.un; omega) ?_
  refine wpAny_mono (run_own2 F hb hr I h) (fun v s' z => ?_) fun _ _ e => e
  obtain ⟨x, H', I', r, ⟨b, rfl⟩, z, e, q⟩ := z
  cases e
  cases r
  exact ⟨_, rfl, .bl (!b), H', I', rfl, q⟩
end

/-! ### xs.count(x) by an own __eq__ that says True each time -/
section
open PySem.SeqAt AutoSeq1 MeetsSeq MeetsSeq2 MeetsSeq3 SeqRoads2
variable {prog : Program} {w : World} {A : Around} {R : Result → Shared → Prop}
def CntI (prog : Program) (w : World) (A : Around) (E : Value → Shared → Prop) (l : Addr) (y : Value) (N : Nat) (I : Nat → Shared → Prop) : Prop :=
  ∀ i s, I i s → ∃ (items : Array Value) (n : Nat) (dd : Option Addr) (sl : Array (Option Value)), s.heap.get? l = some { cls := .type "list", dict := dd, data := .seq items n, slots := sl } ∧ items.size = N ∧
    ∀ h1 : i < items.size, wpAny (model prog w) A.in1 (eqBool items[i] y) (fun r s' => r = true ∧ I (i + 1) s') E s
theorem cnt_loopJ (l : Addr) (y : Value) (N : Nat) (I : Nat → Shared → Prop) (hl : CntI prog w A (fun e s' => R (.error e) s') l y N I)
    (fin : ∀ s, I N s → R (.ok (.ret (.int (N : Nat) s.toks))) { s with toks := s.toks + 1 }) (k : Nat) :
    ∀ i : Nat, N - i = k → i ≤ N → ∀ s, I i s →
      wpAny (model prog w) A.in1 (Builtin.«list.count.loop» ⟨[.ref l, y, rawInt i, rawInt i], []⟩) (GQ.FinOf prog w A R) (fun e s' => R (.error e) s') s := by
  induction k with
  | zero =>
    intro i hk hi s h
    obtain ⟨items, n, dd, sl, hl1, hs1, _⟩ := hl _ _ h
    have hi' : i = N := by omega
    subst hi'
    have hR := fin s h
    obtain ⟨hp, g, d, tk, os⟩ := s
    wp_walk using wpAny_loadPart' hl1
    have hi1 : items[((i : Nat) : Int).toNat]? = none := by simp; omega
    rw [hi1]
    wp_walk
    exact hR
  | succ k ih =>
    intro i hk hi s h
    obtain ⟨items, n, dd, sl, hl1, hs1, turn⟩ := hl _ _ h
    have hlt : i < items.size := by omega
    have ht := turn hlt
    obtain ⟨hp, g, d, tk, os⟩ := s
    wp_walk using wpAny_loadPart' hl1
    have hi1 : items[((i : Nat) : Int).toNat]? = some items[i] := by simp [hlt]
    have hc : ((i : Int) + 1) = ((i + 1 : Nat) : Int) := by omega
    rw [hi1]
    refine wpAny_bind (wpAny_mono ht (fun r s2 h2 => ?_) fun _ _ x => x)
    obtain ⟨hr, h2⟩ := h2
    subst hr
    have hrec := ih (i + 1) (by omega) (by omega) s2 h2
    obtain ⟨hp2, g2, d2, tk2, os2⟩ := s2
    wp_walk
    simp only [if_true]
    rw [hc]
    exact ⟨plainId_quiet plain_count_loop _, codeAny_builtin entry_count_loop (by
      rw [Around.under_plainId plain_count_loop _]
      exact hrec)⟩
theorem list_cntJ (l : Addr) (y : Value) (N : Nat) (I : Nat → Shared → Prop) (hl : CntI prog w A (fun e s' => R (.error e) s') l y N I)
    (fin : ∀ s, I N s → R (.ok (.ret (.int (N : Nat) s.toks))) { s with toks := s.toks + 1 }) {s : Shared} (h : I 0 s) :
    wpAny (model prog w) A.in1 (Builtin.«list.count» ⟨[.ref l, y], []⟩) (GQ.FinOf prog w A R) (fun e s' => R (.error e) s') s := by
  obtain ⟨items, n, dd, sl, hl1, hs1, _⟩ := hl _ _ h
  have hrec := cnt_loopJ (A := A) (R := R) l y N I hl fin _ 0 rfl (Nat.zero_le _) s h
  obtain ⟨hp, g, d, tk, os⟩ := s
  wp_walk using wpAny_loadPart' hl1
  exact ⟨plainId_quiet plain_count_loop _, codeAny_builtin entry_count_loop (by
    rw [Around.under_plainId plain_count_loop _]
    exact hrec)⟩
end
def rCountO (C : Addr) (sp : Sp) : V → List V → Hp → VK → Prop := fun x xs H Q => ∃ (l b : Addr) (N : Nat) (J : Hp → Prop), x = .ref l ∧ xs = [.ref b] ∧ J H ∧
  (∀ H', J H' → ∃ vs, H' l = some (.lst vs) ∧ vs.length = N ∧ ∀ v ∈ vs, rEqO C sp v (.ref b) H' fun v H'' => v = .bl true ∧ J H'') ∧ ∀ H', J H' → Q (.int (N : Nat)) H'
section
variable {X : Cx} {k : Nat} {f C : Addr} {fd : FuncData} {ps : List Str} {sp : Sp}
theorem mt_countO (F : FnOk X.prog X.w X.K X.mg X.base (L2.CX X.prog X.w) k f fd ps sp) (hm : Meth X.K C "__eq__" f) (hb : Binds X.K fd ps []) (hr : Room (k + 2) X.A) : MtR X "list.count" (rCountO C sp) := by
  intro pins s σ H x xs v us Q I rx rxs h
  obtain ⟨l, b, N, J, rfl, rfl, j0, jl, jq⟩ := h
  cases rx
  obtain ⟨u, rfl, ru⟩ := rxs.one
  cases ru
  have hr1 : Room (k + 1) X.A.in1 := hr.in1
  let II : Nat → Shared → Prop := fun _ s' => ∃ H', L2.Inv X pins σ H' s' ∧ J H'
  obtain ⟨vs, hl, hN, _⟩ := jl H j0
  obtain ⟨its, rv, ⟨⟨cls, dd, data, sl⟩, n, ho, hcl, hdn, hdt⟩, hlen⟩ := I.list (sq_of hl)
  simp only at hcl hdt
  subst hcl hdt
  refine GQ.call_here PySem.F.slot_list_count ⟨_, ho, rfl⟩ PySem.F.entry_list_count (PySem.F.args_list_count_2 _ _) ?_
  refine list_cntJ l (.ref b) N II (fun i s' hi => ?_) (fun s' hi => ?_) ⟨H, I, j0⟩
  · obtain ⟨H', I', j'⟩ := hi
    obtain ⟨vs, hl, hN, hv⟩ := jl H' j'
    obtain ⟨its, rv, ⟨⟨cls, dd, data, sl⟩, n, ho, hcl, hdn, hdt⟩, hlen⟩ := I'.list (sq_of hl)
    simp only at hcl hdt
    subst hcl hdt
    refine ⟨its.toArray, n, dd, sl, ho, by rw [← hN, rv.length]; simp, fun h1 => ?_⟩
    have h1' : i < vs.length := by rw [rv.length]; simpa using h1
    obtain ⟨w, hw, rw⟩ := rv.get (List.getElem?_eq_getElem h1')
    have h2' : i < its.length := by simpa using h1
    rw [List.getElem?_eq_getElem h2'] at hw
    have hw' : its.toArray[i] = w := by simpa using hw
    rw [hw']
    obtain ⟨a, b', dx, dy, fs, gs, e1, e2, ha, hb', h⟩ := hv _ (List.getElem_mem h1')
    cases e2
    rw [e1] at rw
    cases rw
    by_cases hab : a = b
    · subst hab
      unfold eqBool
      refine wpAny_holding ?_
      rw [if_pos (by simp)]
      repeat (first | exact wpAny_pure (show true = true ∧ II (i + 1) _ from ⟨rfl, H', I', j'⟩) | wp_step)
    · obtain ⟨mA, JJ, _⟩ := ins_get I'.hok ha
      obtain ⟨mB, JJ', _⟩ := ins_get I'.hok hb'
      obtain ⟨od, JJ, _⟩ := JJ.look
      obtain ⟨od', JJ', _⟩ := JJ'.look
      obtain ⟨m, hF⟩ := I'.fr
      refine GQ.eqBool_refG hab ?_
      refine PySem.W.cmp_K (op := .Eq) (tb := .ref C) hr1.units0 hF I'.ok.mod.kin JJ JJ'.type (by simp [PySem.W.notFirst]) hm.at_ hm.fn ?_
      refine wpAny_mono (run_own2 F hb (hr.mono (by omega)) I' h) (fun v s' z => ?_) fun _ _ e => e
      obtain ⟨x, H2, I2, r, ⟨b0, rfl⟩, e, q⟩ := z
      cases e
      cases r
      exact ⟨true, rfl, rfl, H2, I2, q⟩
  · obtain ⟨H', I', j'⟩ := hi
    exact ⟨.int (N : Nat), H', I'.tok _, ⟨_, rfl⟩, jq H' j'⟩
end

/-! ### in the evaluator -/
def oNeO (C : Addr) (F : List Slot → M Rv) : Env → List Dv → M (Env × Dv) := fun e ds => (oOwn C F 2 isBlT e ds).bind fun p => match p.2 with
  | .t (.bl b) => .ret (p.1, .t (.bl (!b)))
  | _ => .bad
def isTrue : M (Env × Dv) → Bool
  | .ret (_, .t (.bl true)) => true
  | _ => false
def eCntO (C : Addr) (F : List Slot → M Rv) (to : Env → M (Env × Dv)) (ta : Env → M (Env × List Dv)) : Env → M (Env × Dv) := fun e => (to e).bind fun p => match seqv p.1 p.2 with
  | some (false, _) => (ta p.1).bind fun q => match seqv q.1 p.2, q.2 with
    | some (false, ts), [d] => match view q.1 d with
      | some x => if isObjT C x = true ∧ (ts.all fun t => isTrue (oOwn C F 2 isBlT q.1 [.t t, d])) = true then .ret (q.1, .t (.int (ts.length : Nat))) else .bad
      | none => .bad
    | _, _ => .bad
  | _ => .bad
section
variable {K : PySem.W.Frag} {f : Fx} {W : WX} {C : Addr} {F : List Slot → M Rv}
theorem os_neO : OS K f W (fun _ vs H Q => ∃ x y, vs = [x, y] ∧ rNeO C (spE K F 2) x y H Q) (oNeO C F) := fun n tmp e G H σ ds vs Q X s xw w =>
  os_eqO n tmp e G H σ ds vs (fun v H' => ∃ z, v = .bl z ∧ Q (.bl (!z)) H') X s xw (wp_imp (wpb w) fun n' p h v G' H' x1 sv => by
    obtain ⟨e', d'⟩ := p
    dsimp only at h sv
    split at h
    · rename_i b
      obtain ⟨tb, sm⟩ := sv_t_iff.mp sv
      cases tb
      exact ⟨_, rfl, h _ G' H' x1 (sv_t sm (.bl _))⟩
    · exact h.elim)
theorem own_env {k : Nat} {good : Tr → Bool} {e e' : Env} {ds : List Dv} {d : Dv} (h : oOwn C F k good e ds = .ret (e', d)) : e' = e := by
  unfold oOwn at h
  split at h
  · cases h
  · split at h
    · cases h
    · rename_i ss _
      split at h
      · cases hF : F ss with
        | ret r =>
          rw [hF] at h
          cases r with
          | t x =>
            simp only [noRz, M.bind] at h
            split at h
            · cases h; rfl
            · cases h
          | fr ts => cases h
        | draw m g => rw [hF] at h; cases h
        | rz e C => rw [hF] at h; cases h
        | bad => rw [hF] at h; cases h
      · cases h
theorem isTrue_env {k : Nat} {good : Tr → Bool} {e : Env} {ds : List Dv} (h : isTrue (oOwn C F k good e ds) = true) : oOwn C F k good e ds = .ret (e, .t (.bl true)) := by
  unfold isTrue at h
  split at h
  · rename_i e' q
    rw [q, own_env q]
  · cases h
theorem se_cntO {to : TE} {ta : TA} {mo : Env → M (Env × Dv)} {ma : Env → M (Env × List Dv)} (ho : SE K f W to mo) (ha : SA K f W ta ma) : SE K f W (tBM K "list" (rCountO C (spE K F 2)) to ta) (eCntO C F mo ma) := fun n tmp e G H σ Q X s xw w => by
  refine ho n tmp e G H σ _ X s xw (wp_imp (wpb w) fun n1 p w1 v G1 H1 x1 sv => ?_)
  split at w1
  · rename_i ts0 q0
    obtain ⟨a0, xs0, rfl, sq0, al0⟩ := svs_seq sv q0
    obtain ⟨tm, dk, s1⟩ := sv
    refine ⟨.inl ⟨rfl, xs0, sq_of sq0⟩, ha n1 (tm ++ tmp) p.1 G1 H1 σ _ X s1 xw (wp_imp (wpb w1) fun n2 p2 w2 vs G2 H2 x2 svs => ?_)⟩
    obtain ⟨e2, d2⟩ := p2
    dsimp only at w2 svs
    split at w2
    · rename_i ts d q2
      obtain ⟨tm2, dk2, s2⟩ := svs
      split at w2
      · rename_i x q3
        split at w2
        · rename_i hok
          obtain ⟨ok1, ok2⟩ := hok
          have ht2 : tm2 = [] := by
            cases dk2 with
            | t a b => cases b; rfl
            | sl a b => cases b; rfl
            | fr b => cases q3; cases ok1
            | vv b => cases q3
            | pu a b => cases q3
          subst ht2
          obtain ⟨u, hu⟩ : ∃ u, vs = [u] := by
            match vs, dk2.len with
            | [u], _ => exact ⟨u, rfl⟩
          subst hu
          rw [List.nil_append] at s2
          have tx : Tp K H2 u x := svs_view (ds := []) (vs := []) (tmp := tm ++ tmp) (f := f) (n := n2) (σ := σ) (G := G2) (e := e2) ⟨[], dk2, by rw [List.nil_append]; exact s2⟩ q3
          obtain ⟨b, rfl⟩ : ∃ b, u = .ref b := by
            cases tx with
            | obj _ _ _ => exact ⟨_, rfl⟩
            | _ => cases ok1
          refine ⟨a0, b, ts.length, fun H' => ∃ G', Ex G2 G' ∧ Sem K f n2 (tm ++ tmp) e2 G' H' σ, rfl, rfl, ⟨G2, Ex.refl G2, s2⟩, fun H' hj => ?_, fun H' hj => ?_⟩
          · obtain ⟨G', ex, sm⟩ := hj
            have sv3 : SVs K f n2 tmp e2 G' H' σ [p.2] [.ref a0] := ⟨tm, dk.mono (x2.trans ex), sm⟩
            obtain ⟨a1, xs1, e4, sq1, al1⟩ := svs_seq sv3 q2
            cases e4
            refine ⟨xs1, sq1, al1.len, fun v hv => ?_⟩
            obtain ⟨i, hi⟩ := List.getElem?_of_mem hv
            obtain ⟨t, ht, tv⟩ := al1.getV hi
            have own := isTrue_env (List.all_eq_true.mp ok2 t (List.mem_of_getElem? ht))
            have sv4 : SVs K f n2 (tm ++ tmp) e2 G' H' σ [.t t, d] [v, .ref b] := ⟨[], .t tv (dk2.mono ex), by rw [List.nil_append]; exact sm⟩
            obtain ⟨y1, y2, e5, h⟩ := os_eqO (C := C) (F := F) (W := wNo) n2 (tm ++ tmp) e2 G' H' σ _ _ (fun v H'' => v = .bl true ∧ ∃ G'', Ex G2 G'' ∧ Sem K f n2 (tm ++ tmp) e2 G'' H'' σ) (fun _ _ _ => False) sv4 (fun _ _ _ _ _ _ _ _ _ z _ => z) (by
              rw [own]
              intro v G'' H'' x3 sv5
              obtain ⟨tb, sm5⟩ := sv_t_iff.mp sv5
              cases tb
              exact ⟨rfl, G'', ex.trans x3, sm5⟩)
            cases e5
            exact h
          · obtain ⟨G', ex, sm⟩ := hj
            exact w2 _ G' H' ((x1.trans x2).trans ex) (sv_t sm.drop (.int _))
        · exact w2.elim
      · exact w2.elim
    · exact w2.elim
  · exact w1.elim
end
end Ev

namespace Ev
open PySem L2 Evl Dl PySem.Spec PyProof.Rows
/-! ### how many unlike texts stand ahead of a place -/
def dlt (ks : List Str) : Nat → Nat
  | 0 => 0
  | i + 1 => if ks.getD i Str.empty ∈ ks.take i then dlt ks i else dlt ks i + 1
theorem dlt_le (ks : List Str) : ∀ i, dlt ks i ≤ i
  | 0 => Nat.le_refl _
  | i + 1 => by
    have := dlt_le ks i
    unfold dlt
    split <;> omega
theorem dlt_nodup {ks : List Str} (h : ks.Nodup) : ∀ i, i ≤ ks.length → dlt ks i = i
  | 0, _ => rfl
  | i + 1, hi => by
    unfold dlt
    rw [if_neg, dlt_nodup h i (by omega)]
    intro m
    obtain ⟨j, hj, e⟩ := List.getElem_of_mem m
    rw [List.getD_eq_getElem?_getD, List.getElem?_eq_getElem (by omega), Option.getD_some] at e
    rw [List.getElem_take] at e
    have hj2 : j < i := by rw [List.length_take] at hj; omega
    exact List.pairwise_iff_getElem.mp h j i (by omega) (by omega) hj2 e
/-- the set at a holds the first i of the texts -/
def InS (P : Program) (w : World) (a : Addr) (ks : List Str) (i : Nat) (h : Heap) : Prop := h.SetOf (PySem.strKind P w) a (fun z => decide (z ∈ ks.take i)) (dlt ks i)
theorem InS.at {P : Program} {w : World} {a : Addr} {ks : List Str} {i : Nat} {h h2 : Heap} (x : InS P w a ks i h) (k : ∀ o, h.get? a = some o → h2.get? a = some o) : InS P w a ks i h2 := by
  obtain ⟨o, es, n, tb, q, z⟩ := x
  exact ⟨o, es, n, tb, k o q, z⟩
section
variable {P : Program} {w : World} {A : Around} {R : Result → Shared → Prop} {J a : Addr} {fp wr : List Addr} {G : Array GenState → Array GenState → Prop} {Pv : Nat → Value → Prop} {St : Nat → Shared → Prop} {ks : List Str}
theorem txt_loop (W : WalksS P w A.in1 J fp wr G ks.length Pv St) (ha : a ∉ fp) (hv : ∀ i v, Pv i v → ∃ t, v = .str (ks.getD i Str.empty) t) (big : ks.length + 1 < scanBound) :
    ∀ (j i : Nat), i + j = ks.length → ∀ s : Shared, St i s → InS P w a ks i s.heap → (∀ s2, Moved (a :: wr) G s s2 → InS P w a ks ks.length s2.heap → R (.ok (.ret .none)) s2) → codeAny (model P w) A (.builtin "set.update.loop" ⟨[.ref a, .ref J], []⟩) R s := by
  have haw : a ∉ wr := fun z => ha (W.sub _ z)
  have up : ∀ {s s2 : Shared}, Moved wr G s s2 → Moved (a :: wr) G s s2 := fun mv => mv.mono fun b m => .tail _ m
  intro j
  induction j with
  | zero =>
    intro i e s st x fin
    cases (show i = ks.length by omega)
    refine codeAny_builtin PyProof.Rows.F.entry_set_update_loop ?_
    rw [Around.under_plainId PyProof.Rows.F.plain_set_update_loop _]
    unfold Builtin.«set.update.loop»
    dsimp only
    exact wpAny_bind (W.done s _ _ st fun s2 mv => wpAny_pure (fin s2 (up mv) (x.at fun o => mv.heap a o haw)))
  | succ j ih =>
    intro i e s st x fin
    refine codeAny_builtin PyProof.Rows.F.entry_set_update_loop ?_
    rw [Around.under_plainId PyProof.Rows.F.plain_set_update_loop _]
    unfold Builtin.«set.update.loop»
    dsimp only
    refine wpAny_bind (W.item i s _ _ (by omega) st fun v s2 pv st2 mv => ?_)
    obtain ⟨t, rfl⟩ := hv i v pv
    have x2 := x.at (h2 := s2.heap) fun o => mv.heap a o haw
    dsimp only
    refine wpAny_bind (wpAny_holding ?_)
    unfold setAdd
    refine wpAny_holding (wpAny_bind (KeyKind.pyHash (PySem.strKind P w) (strKind_is _ _ _ _) ?_))
    have room : dlt ks i + 1 < scanBound := by have := dlt_le ks i; omega
    refine wpAny_setAddHashed_of (s := { s2 with toks := s2.toks + 1 }) (strKind_is _ _ _ _) rfl x2 room fun h3 same x3 => ?_
    have x4 : InS P w a ks (i + 1) h3 := by
      have hi : i < ks.length := by omega
      have ek : ks.take (i + 1) = ks.take i ++ [ks.getD i Str.empty] := by
        rw [List.take_succ, List.getD_eq_getElem?_getD, List.getElem?_eq_getElem hi]
        rfl
      refine PyProof.Rows.SetOf_congr x3 (fun z => ?_) ?_
      · rw [ek]
        simp only [List.mem_append, List.mem_singleton, Bool.decide_or]
      · simp only [dlt, decide_eq_true_eq]
    refine wpAny_pure ⟨plainId_quiet PyProof.Rows.F.plain_set_update_loop _, ih (i + 1) (by omega) _ ?_ x4 fun s5 mv5 x5 => ?_⟩
    · exact W.frame _ s2 _ _ st2 (Nat.le_succ _) fun b m o q => (same.2 b fun z => ha (z ▸ m)).trans q
    · refine fin s5 (Moved.trans W.gtrans ((up mv).then_heap (Nat.le_succ _) fun b o m q => ?_) mv5) x5
      exact (same.2 b fun z => m (z ▸ List.mem_cons_self)).trans q
end

section
variable {P : Program} {w : World} {A : Around} {E : Value → Shared → Prop} {s : Shared} {l : Addr} {its : Array Value} {ks : List Str}
theorem txt_at : ∀ {us : List Value} {ks : List Str}, PyProof.Rows.StrsAre us ks → ∀ (i : Nat) (v : Value), us[i]? = some v → ∃ t, v = .str (ks.getD i Str.empty) t
  | _, _, .nil, i, v, h => by simp at h
  | _, _, .cons n t _, 0, v, h => ⟨t, by simpa using h.symm⟩
  | _, _, .cons n t r, i + 1, v, h => txt_at r i v (by simpa using h)
abbrev fresh0 (led : Bool) : Obj := { cls := .type "set", dict := none, data := .set #[] 0 (.fresh 0 0 led) }
/-- set.__init__ on a set that has just been made, handed a list of texts -/
theorem txt_init {R : Result → Shared → Prop} (led : Bool) (hh : A.handled = none) (hl : s.heap.IsList l its) (hk : PyProof.Rows.StrsAre its.toList ks) (big : ks.length + 1 < scanBound)
    (fin : ∀ (h : Heap) (tk : Nat), InS P w s.heap.objs.size ks ks.length h → (∀ b o, b < s.heap.objs.size → s.heap.get? b = some o → h.get? b = some o) → R (.ok (.ret .none)) { s with heap := h, toks := tk }) :
    wpAny (model P w) A.in1 (Builtin.«set.__init__» ⟨[.ref s.heap.objs.size, .ref l], []⟩) (GQ.FinOf P w A R) (fun e s' => R (.error e) s') { s with heap := s.heap.push (fresh0 led) } := by
  obtain ⟨⟨oc, od, odt, osl⟩, ho, hc, n, hd⟩ := id hl
  simp only at hc hd
  subst hc hd
  have hS : (s.heap.push (fresh0 led)).get? s.heap.objs.size = some (fresh0 led) := Heap.get?_push_size _ rfl
  have ho1 : (s.heap.push (fresh0 led)).get? l = some { cls := .type "list", dict := od, data := .seq its n, slots := osl } := Heap.get?_push_of_some _ ho
  have hT : Shared.TypeIs { s with heap := s.heap.push (fresh0 led) } (.ref s.heap.objs.size) "set" := ⟨_, hS, rfl⟩
  have z1 := PySem.F.sub_list_set
  have z2 := PySem.F.sub_list_frozenset
  have z3 : (Value.type "list" == Value.type "dict") = false := by decide
  have hl1 : (s.heap.push (fresh0 led)).IsList l its := ⟨_, ho1, rfl, n, rfl⟩
  unfold Builtin.«set.__init__» noKeywords Builtin.Frozenset.updateFrom
  generalize hPI : pyIter = PI
  wp_walk
  subst hPI
  refine wpAny_pyIter_list hl1 (wpAny_bind (wpAny_runValue ?_))
  have hls : l < s.heap.objs.size := Heap.lt_size ho
  have one : (s.heap.push (fresh0 led)).objs.size = s.heap.objs.size + 1 := Heap.size_push ..
  have off : l ≠ (s.heap.push (fresh0 led)).objs.size := by rw [one]; exact Nat.ne_of_lt (Nat.lt_succ_of_lt hls)
  have len : ks.length = its.size := by rw [← PyProof.Rows.StrsAre.len_eq hk, Array.length_toList]
  have W0 := (Walks.list (prog := P) (w := w) (A := A.in1.in1) (by simp [hh]) (s.heap.push (fresh0 led)).objs.size l off its).toS
  rw [← len] at W0
  refine txt_loop W0 (a := s.heap.objs.size) ?_ (fun i v hv => txt_at hk i v (by rw [Array.getElem?_toList]; exact hv)) big ks.length 0 (Nat.zero_add _) _ ⟨⟨_, Heap.get?_push_size _ rfl, rfl, rfl⟩, hl1.push _⟩ ?_ ?_
  · rw [one]
    simp only [List.mem_cons, List.not_mem_nil, or_false, not_or]
    exact ⟨Nat.ne_of_lt (Nat.lt_succ_self _), Nat.ne_of_gt hls⟩
  · exact PyProof.Rows.SetOf_congr ((PyProof.Rows.setObjOf_fresh (knd := PySem.strKind P w) led).setOf (Heap.get?_push_of_some _ hS) (by unfold scanBound; omega)) (fun z => by simp) rfl
  · intro s2 mv x
    obtain ⟨h, g, d, tk, os⟩ := s2
    cases mv.gens
    cases mv.drawn
    cases mv.os
    refine wpAny_pure (wpAny_pure (fin h tk x fun b o hb q => mv.heap b o ?_ (Heap.get?_push_of_some _ (Heap.get?_push_of_some _ q))))
    rw [one]
    simp only [List.mem_cons, List.not_mem_nil, or_false, not_or]
    exact ⟨Nat.ne_of_lt hb, Nat.ne_of_lt (Nat.lt_succ_of_lt hb)⟩
/-- set(texts) -/
theorem call_set_txt {Q : Value → Shared → Prop} (hh : A.handled = none) (hl : s.heap.IsList l its) (hk : PyProof.Rows.StrsAre its.toList ks) (big : ks.length + 1 < scanBound)
    (fin : ∀ (h : Heap) (tk : Nat), InS P w s.heap.objs.size ks ks.length h → (∀ b o, b < s.heap.objs.size → s.heap.get? b = some o → h.get? b = some o) → Q (.ref s.heap.objs.size) { s with heap := h, toks := tk }) :
    wpAny (model P w) A (call (.type "set") [.ref l]) Q E s := by
  obtain ⟨mc, mt, m1⟩ := PySem.F.called_set.mro
  have m2 := PySem.F.called_set.made
  have m3 := PySem.F.called_set.sub
  have m4 := PySem.F.called_set.notType
  have m5 := PySem.F.called_set.canCreate
  have m6 := PySem.F.typeCall_set_1 (.ref l)
  have m7 := PySem.F.called_set.init.lookup
  have m8 := PySem.F.called_set.init.bind (.ref s.heap.objs.size)
  refine wpAny_call (codeAny_of_tree (show wpAny _ _ (callAny (.type "set") _) _ _ _ from wpAny_pure ⟨Code.quiet_builtin _ (by decide +kernel), codeAny_builtin PySem.F.entry_type_call ?_⟩))
  rw [Around.under_plain (weight_type_call_type "set" [.ref l] []) rfl]
  repeat (any_goals (first | assumption | wp_step))
  refine codeAny_mono (code_set_new_1 (.ref l) (E := E) (Q₁ := fun v t => ∃ led, v = .ref s.heap.objs.size ∧ t = { s with heap := s.heap.push (fresh0 led) }) fun led => ⟨led, rfl, rfl⟩) fun r t ht => ?_
  match r, ht with
  | .error e, ht => exact ht
  | .ok .next, ht => exact ht.elim
  | .ok .brk, ht => exact ht.elim
  | .ok .cont, ht => exact ht.elim
  | .ok (.ret v), ht =>
    obtain ⟨led, rfl, rfl⟩ := ht
    have hT : Shared.TypeIs { s with heap := s.heap.push (fresh0 led) } (.ref s.heap.objs.size) "set" := ⟨_, Heap.get?_push_size _ rfl, rfl⟩
    repeat (any_goals (first | assumption | wp_step))
    refine codeAny_mono (codeAny_call_builtin (R := wants (fun v t => v = .none ∧ ∃ h tk, t = { s with heap := h, toks := tk } ∧ InS P w s.heap.objs.size ks ks.length h ∧ ∀ b o, b < s.heap.objs.size → s.heap.get? b = some o → h.get? b = some o) E) PySem.F.called_set.init.plain PySem.F.entry_set_init (check_set_init_1 hT ?_)) fun r t ht => ?_
    · exact txt_init led (by simp [hh]) hl hk big fun h tk x k => ⟨rfl, h, tk, rfl, x, k⟩
    · match r, ht with
      | .error e, ht => exact ht
      | .ok .next, ht => exact ht.elim
      | .ok .brk, ht => exact ht.elim
      | .ok .cont, ht => exact ht.elim
      | .ok (.ret v), ht =>
        obtain ⟨rfl, h, tk, rfl, x, k⟩ := ht
        repeat (any_goals (first | assumption | wp_step))
        exact fin h tk x k
end
end Ev

namespace Ev
open PySem L2 Evl Dl PySem.Spec PyProof.Rows
/-! ### len(set(a list of texts)) -/
def SetTx (P : Program) (w : World) (a : Addr) (ks : List Str) : HO := .ext fun h => InS P w a ks ks.length h
theorem setTx_new {P : Program} {w : World} {H : Hp} {h : Heap} {a : Addr} {ks : List Str} (x : InS P w a ks ks.length h) : ObjOk P w H h a (SetTx P w a ks) :=
  ⟨x, have ⟨o, _, _, _, q, _⟩ := x; ⟨o, q⟩, fun _ _ p k => InS.at p k⟩
def rSetTx (K : PySem.W.Frag) (P : Program) (w : World) : List V → Hp → VK → Prop := fun xs H Q => ∃ (l : Addr) (ks : List Str), xs = [V.ref l] ∧ SqL K H l (ks.map V.str) ∧ ks.length < 1000 ∧ ∀ a, H a = none → Q (.ref a) (upd H a (SetTx P w a ks))
def rLenTx (P : Program) (w : World) : List V → Hp → VK → Prop := fun xs H Q => ∃ (a : Addr) (ks : List Str), xs = [V.ref a] ∧ H a = some (SetTx P w a ks) ∧ Q (.int (dlt ks ks.length : Nat)) H
section
variable {X : Cx}
theorem cr_setTx (hc : X.calm = true) : CallR X (.type "set") (rSetTx X.K X.prog X.w) := by
  intro pins s σ H xs us Q I r h
  obtain ⟨l, ks, rfl, hl, hn, q⟩ := h
  rw [Vals.ref1 r]
  obtain ⟨its, rv, pl, hz⟩ := I.list hl
  refine call_set_txt (I.ok.hd hc) pl.isList (by simpa using strsAre_of rv) (by unfold scanBound; omega) fun h2 tk x k => ?_
  exact ⟨.ref s.heap.objs.size, _, I.laid (t' := tk) (fun b o e => k b o (Heap.lt_size e) e) (Nat.le_refl _) (setTx_new x), rfl, q _ (I.hok.fresh (Nat.le_refl _))⟩
theorem cr_lenTx : CallR X (.builtin "len") (rLenTx X.prog X.w) := by
  intro pins s σ H xs us Q I r h
  obtain ⟨a, ks, rfl, ha, q⟩ := h
  rw [Vals.ref1 r]
  obtain ⟨o, es, n, tb, ho, hex, hd, _, _, hb, hf, hn⟩ : InS X.prog X.w a ks ks.length s.heap := (I.hok a _ ha).1
  have z : (scanBound : Int) < 2 ^ 63 := by unfold scanBound; decide
  exact call_len_set ho hex hd hf (by omega) ⟨.int (dlt ks ks.length : Nat), H, I.tok _, ⟨_, by rw [hn]⟩, q⟩
end
def eLenTx (a : Env → M (Env × Dv)) : Env → M (Env × Dv) := fun e => (a e).bind fun p => match seqv p.1 p.2 with
  | some (false, ts) => match strsT ts with
    | some ks => if ks.length < 1000 then .ret (p.1, .t (.int (dlt ks ks.length : Nat))) else .bad
    | none => .bad
  | _ => .bad
section
variable {K : PySem.W.Frag} {f : Fx} {W : WX}
theorem se_lenTx {P : Program} {wd : World} {te : TE} {a : Env → M (Env × Dv)} (h : SE K f W te a) : SE K f W (tCB (rLenTx P wd) (tCons (tCB (rSetTx K P wd) (tCons te tNil)) tNil)) (eLenTx a) := fun n tmp e G H σ Q X s xw w => by
  refine h n tmp e G H σ _ X s xw (wp_imp (wpb w) fun n1 p w1 v G1 H1 x1 sv => ?_)
  have sm := svs_sem sv
  split at w1
  · rename_i ts q
    obtain ⟨a, xs, rfl, sq, al⟩ := svs_seq sv q
    split at w1
    · rename_i ks q2
      split at w1
      · rename_i hn
        cases strsT_ok q2 al
        refine ⟨a, ks, rfl, sq_of sq, hn, fun b hb => ?_⟩
        have sb := sm.allocH (ob := SetTx P wd b ks) hb
        exact ⟨b, ks, rfl, upd_same, w1 _ G1 _ x1 (sv_t sb (.int _))⟩
      · exact w1.elim
    · exact w1.elim
  · exact w1.elim
end
/-! ### len(set(a tuple of ints)) -/
def rLenSI (w : World) : List V → Hp → VK → Prop := fun xs H Q => ∃ (a : Addr) (S : Int → Bool) (n : Nat), xs = [V.ref a] ∧ H a = some (SetO w a S n) ∧ ∀ ms : List Int, ms.Nodup → (∀ k, S k = true ↔ k ∈ ms) → Q (.int (ms.length : Nat)) H
theorem cr_lenSI {X : Cx} : CallR X (.builtin "len") (rLenSI X.w) := by
  intro pins s σ H xs us Q I r h
  obtain ⟨a, S, n, rfl, ha, q⟩ := h
  rw [Vals.ref1 r]
  obtain ⟨o, es, ep, tb, ho, hex, hd, _, nd, mem, hb, hf, hn, _⟩ := setO_get I ha
  have z : (scanBound : Int) < 2 ^ 63 := by unfold scanBound; decide
  have hl : (es.toList.map keyOf).length = es.size := by rw [List.length_map, Array.length_toList]
  exact call_len_set ho hex hd hf (by omega) ⟨.int ((es.toList.map keyOf).length : Nat), H, I.tok _, ⟨_, by rw [hl]⟩, q _ nd mem⟩
def eLenSI (a : Env → M (Env × Dv)) : Env → M (Env × Dv) := fun e => (a e).bind fun p => match seqv p.1 p.2 with
  | some (true, ts) => match intsT ts with
    | some ns => if ns.length < 1000 then .ret (p.1, .t (.int ((sortN ns).length : Nat))) else .bad
    | none => .bad
  | _ => .bad
section
variable {K : PySem.W.Frag} {f : Fx} {W : WX}
theorem se_lenSI {wd : World} {te : TE} {a : Env → M (Env × Dv)} (h : SE K f W te a) : SE K f W (tCB (rLenSI wd) (tCons (tCB (rSetTI K wd) (tCons te tNil)) tNil)) (eLenSI a) := fun n tmp e G H σ Q X s xw w => by
  refine h n tmp e G H σ _ X s xw (wp_imp (wpb w) fun n1 p w1 v G1 H1 x1 sv => ?_)
  have sm := svs_sem sv
  split at w1
  · rename_i ts q
    obtain ⟨a, xs, rfl, sq, al⟩ := svs_seq sv q
    split at w1
    · rename_i ns q2
      split at w1
      · rename_i hn
        cases intsT_ok q2 al
        refine ⟨a, ns, rfl, sq, by omega, fun b c hb hc => ?_⟩
        have sb := sm.allocH (ob := SetO wd b (fun j => decide (j ∈ ns)) c) hb
        refine ⟨b, _, c, rfl, upd_same, fun ms nd hm => ?_⟩
        have pm : ms.Perm (sortN ns) := (List.perm_ext_iff_of_nodup nd ((sortN_lt ns).imp fun {a b} h e => by subst e; exact Int.lt_irrefl _ h)).mpr fun k => by rw [← hm, sortN_mem, decide_eq_true_eq]
        rw [pm.length_eq]
        exact w1 _ G1 _ x1 (sv_t sb (.int _))
      · exact w1.elim
    · exact w1.elim
  · exact w1.elim
end
end Ev

namespace Ev
open PySem L2 Evl Dl PySem.Spec PyProof.Rows NdefX
/-! ### a method that says super(): a def of the written part with the cell __class__ -/
structure FunS (K : PySem.W.Frag) (st : Stmt) (nm qual : Str) (f cc D cda : Addr) (fd : FuncData) : Prop where
  ex : ∃ oc od kV dV doc pm an ct osl, fd = PySem.W.fnX nm qual (defArgs st) (defBody st) (defScope st) [("__class__", cc)] dV kV doc pm an (.ref cda) ct ∧ K.lookup f = some ⟨oc, od, .func fd, osl⟩
  code : PySem.W.codeIn K (.ref cda) qual = true
  cell : ∃ cl cld csl, K.lookup cc = some ⟨cl, cld, .cell (some (.ref D)), csl⟩
abbrev nfS (st : Stmt) (nm qual : Str) (cc cda : Addr) : NF := ⟨nm, qual, defArgs st, defBody st, defScope st, [("__class__", cc)], cda⟩
def EFl (X : Cx) (Q : VK) (fl : Flow) (s' : Shared) : Prop := match fl with
  | .ret u => ∃ v σ' H', L2.Inv X [] σ' H' s' ∧ RelV v u ∧ Q v H'
  | .next => ∃ σ' H', L2.Inv X [] σ' H' s' ∧ Q .non H'
  | _ => False
section
variable {P : Program} {w : World} {K : PySem.W.Frag} {mg : Str → Option Value} {base : Heap}
theorem FunS.cells {st : Stmt} {nm qual : Str} {f cc D cda : Addr} {fd : FuncData} (F : FunS K st nm qual f cc D cda fd) {A : Around} {out : List PySem.Env} {s : Shared} {H : Hp} (en : Env0 P w K mg base A out s H) : CellsAt [("__class__", cc)] ["__class__"] [some (.ref D)] s.heap H := by
  obtain ⟨cl, cld, csl, hc⟩ := F.cell
  have b := en.mod.kin _ _ hc
  obtain ⟨h1, h2⟩ := en.bs _ _ b
  have look : ∀ y c, List.lookup y [(("__class__" : Str), cc)] = some c → y = "__class__" ∧ c = cc := fun y c e => by
    rw [List.lookup_cons] at e
    split at e
    · rename_i q
      exact ⟨beq_iff_eq.mp q, (Option.some.inj e).symm⟩
    · cases e
  refine ⟨rfl, fun y c e => ?_, fun x y c e1 e2 => ?_, fun i y e => ?_⟩
  · obtain ⟨_, rfl⟩ := look y c e
    exact ⟨h2, _, _, h1, rfl⟩
  · rw [(look x c e1).1, (look y c e2).1]
  · match i, e with
    | 0, e =>
      cases Option.some.inj e
      refine ⟨cc, by rw [List.lookup_cons, show (("__class__" : Str) == ("__class__" : Str)) = true from by decide +kernel], fun v hv => ?_⟩
      cases Option.some.inj (Option.some.inj hv)
      exact ⟨.ref D, rfl, _, h1, rfl⟩
    | i + 1, e => simp at e
theorem FunS.ok {st : Stmt} {nm qual : Str} {f cc D cda : Addr} {fd : FuncData} {N ps : List Str} {k : Nat} {sp : Sp} (F : FunS K st nm qual f cc D cda fd) (S : NScope N ps ["__class__"] (defScope st)) (ln : ∀ vs H Q E, sp vs H Q E → vs.length = ps.length)
    (hB : ∀ (A : Around) (out : List PySem.Env) (s : Shared) (H : Hp) (vs : List V) (Q : VK) (E : XK), Room k (A.deeper (envF (nfS st nm qual cc cda) f s.heap.objs.size)) → sp vs H Q E →
      ∀ s1, L2.Inv (ncx (L2.CX P w) P w K mg base N (nfS st nm qual cc cda) f A out s H E) [] (startF N vs [some (.ref D)]) H s1 →
      PySem.wpAt (model P w) (A.deeper (envF (nfS st nm qual cc cda) f s.heap.objs.size)) (.func (defBody st) (envF (nfS st nm qual cc cda) f s.heap.objs.size)) (execs (defBody st) (envF (nfS st nm qual cc cda) f s.heap.objs.size))
        (EFl (ncx (L2.CX P w) P w K mg base N (nfS st nm qual cc cda) f A out s H E) Q) (ncx (L2.CX P w) P w K mg base N (nfS st nm qual cc cda) f A out s H E).xe s1) : FnOk P w K mg base (L2.CX P w) (k + 1) f fd ps sp := by
  have F0 := F
  obtain ⟨⟨oc, od, kV, dV, doc, pm, an, ct, osl, rfl, lk⟩, hcd, _⟩ := F
  refine ⟨ln, fun A out s H ar us vs Q E rm en bd rl hs => ?_⟩
  have lv := ln _ _ _ _ hs
  have kin : K.In s.heap := en.mod.kin.keeps fun b o q => (en.bs b o q).1
  have nol : s.heap.NoLimit := en.mod.nolimit.keeps fun b o q => (en.bs b o q).1
  refine PySem.ks_codeAny_call_defAt rm.depth (kin _ _ lk) rfl nol (PySem.W.codeRec_of kin hcd) rfl bd S.nocell (fun ⟨n, _⟩ hy => S.par n (List.of_mem_zip hy).1) (fun h₁ hns hk => ?_) S.co S.gen S.kind
  have I := inv_startN (CX := L2.CX P w) (E := E) (f := f) (F := nfS st nm qual cc cda) (tk := s.toks + (ps.zip us).length) S rm.hd en lv rl (F0.cells en) hns hk
  refine PySem.wpAt_mono (hB A out s H vs Q E (rm.deeper _) hs _ I) (fun fl s2 done => ?_) fun _ _ bad => bad
  have close : ∀ {τ : L2.St} {H2 : Hp} {v : V} {u : Value}, L2.Inv (ncx (L2.CX P w) P w K mg base N (nfS st nm qual cc cda) f A out s H E) [] τ H2 s2 → RelV v u → Q v H2 → CE out P w H s Q u s2 := fun {τ H2 v u} j r q => ⟨v, H2, j.os, j.bare, j.base, j.hok, r, q⟩
  match fl, done with
  | .ret u, ⟨v, τ, H2, j, r, q⟩ => exact close j r q
  | .next, ⟨τ, H2, j, q⟩ => exact close (v := V.non) (u := Value.none) j rfl q
end
/-! ### the wrapper that super().__init__ is, called -/
section
variable {X : Cx} {pins : List (Addr × Obj)} {σ : L2.St} {H : Hp} {s : Shared} {a C u : Addr}
theorem call_wrap {us : List Value} {Q : Value → Shared → Prop} {A : Around} {E : Value → Shared → Prop} (T : OexC X.K C) (I : L2.Inv X pins σ H s) (e : H a = some (exo a C none)) (hu : s.heap.get? u = some (PySem.W.kxs_mw "ValueError.__init__" a)) (hl : us.length ≤ sizeLine)
    (h : ∀ s', L2.Inv X pins σ H s' → Q .none s') : wpAny (model X.prog X.w) A (call (.ref u) us) Q E s := by
  obtain ⟨nm, q, N, bs, bm, sn, sub, ab, col, dd, k0, k1, k2, k3, k5, hC, hbm⟩ := T.cls
  obtain ⟨t1, ho⟩ := exo_at I.hok e
  obtain ⟨hp, g, d, t, os⟩ := s
  have fin : ∀ h' t2, (∀ b o, b ≠ a → hp.get? b = some o → h'.get? b = some o) → h'.get? a = some (PySem.HandSPX.excO C t2) → Q .none ⟨h', g, d, t, os⟩ := fun h' t2 k hx => by
    have J := I.write (t' := t) (x := a) (e := a) (o := exo a C none) (by rw [e]; exact True.intro) (.inl rfl) k ⟨_, hx⟩ (exo_ok hx)
    have eu : upd H a (exo a C none) = H := by
      funext b
      by_cases hb : b = a
      · rw [hb, upd_same, e]
      · rw [upd_ne hb]
    rw [eu] at J
    exact h _ J
  refine wpAny_call (codeAny_of_tree (show wpAny _ A.in1 (callAny (.ref u) ⟨us, []⟩) _ _ _ from ?_))
  simp only [callAny]
  refine wpAny_bind (wpAny_load hu ?_)
  simp only [show (Value.type "method-wrapper" == Value.type "method" || Value.type "method-wrapper" == Value.type "builtin_function_or_method" || Value.type "method-wrapper" == Value.type "method-wrapper") = true by decide, if_true]
  refine PySem.W.KFB.if_so (by decide) ?_
  refine wpAny_bind (PySem.W.check_bound_init PySem.F.excCall_ValueError (I.kIn _ _ hC) ho rfl ?_)
  refine wpAny_bind (wpAny_pure (wpAny_pure ⟨Code.quiet_builtin _ (by decide +kernel), codeAny_builtin PySem.F.excBase_ValueError.initEntry ?_⟩))
  rw [Around.under_plainId PySem.F.excBase_ValueError.init.plain _]
  wp_walk
  refine fin _ hp.objs.size (fun b o hb q => ?_) ?_
  · rw [Heap.get?_update_other _ _ (Ne.symm hb)]
    exact Heap.get?_push_of_some _ q
  · rw [Heap.get?_update_self _ (Heap.get?_push_of_some _ ho) rfl]
    rfl
end
/-! ### super().__init__(e) as a statement -/
abbrev scx (P : Program) (w : World) (K : PySem.W.Frag) (mg : Str → Option Value) (base : Heap) (N : List Str) (st : Stmt) (nm qual : Str) (cc cda f : Addr) (A : Around) (out : List PySem.Env) (s0 : Shared) (H0 : Hp) (E : XK) : Cx := ncx (L2.CX P w) P w K mg base N (nfS st nm qual cc cda) f A out s0 H0 E
structure SupOk (P : Program) (K : PySem.W.Frag) (mg : Str → Option Value) (st : Stmt) (D cda : Addr) : Prop where
  sub : PySem.W.mroIn K D (.ref D) = some true
  meth : PySem.W.ks_superIn K D D "__init__" = some (some (.builtin "ValueError.__init__"))
  ve : PySem.W.subIn K (.ref D) (.type "ValueError") = some true
  opq : PySem.W.nsIn K cStatics "thirdparty.any" = some none
  cod : ∃ ccl cdd vs ccs file tf, K.lookup cda = some ⟨ccl, cdd, .fields vs, ccs⟩ ∧ vs[2]? = some (.str file tf) ∧ ((P.main.file : Str) == file) = true
  top : (P.main.scope.names.lookup ("super" : Str)).isSome = false
  mg0 : mg "super" = none
  ks : (defScope st).names.lookup ("super" : Str) = some .globalImplicit
  kc : (defScope st).names.lookup ("__class__" : Str) = some .free
  ka : (defScope st).names.lookup ("self" : Str) = some .local
  par : ∃ ar, ((defArgs st).posonlyargs ++ (defArgs st).args).head? = some ar ∧ ar.arg = "self"
  kd : (defScope st).kind = .function
section
variable {P : Program} {w : World} {K : PySem.W.Frag} {mg : Str → Option Value} {base : Heap} {N : List Str} {st : Stmt} {nm qual : Str} {f cc D cda a : Addr} {fd : FuncData} {A : Around} {out : List PySem.Env} {s0 : Shared} {H0 : Hp} {E : XK}
theorem super_ex (F : FunS K st nm qual f cc D cda fd) (T : OexC K D) (SO : SupOk P K mg st D cda) (hN : N[0]? = some ("self" : Str)) {σ : L2.St} {H : Hp} {s : Shared} (I : L2.Inv (scx P w K mg base N st nm qual cc cda f A out s0 H0 E) [] σ H s) (hσ : σ[0]? = some (some (.ref a))) (ha : H a = some (exo a D none))
    {e : Expr} {te : TE} {R : Hp → Prop} (he : PE (scx P w K mg base N st nm qual cc cda f A out s0 H0 E) e te) (ht : te σ H fun x H1 => [x].length = 1 ∧ H1 a = some (exo a D none) ∧ R H1) {Q : Flow → Shared → Prop}
    (hQ : ∀ s' H1, L2.Inv (scx P w K mg base N st nm qual cc cda f A out s0 H0 E) [] σ H1 s' → H1 a = some (exo a D none) → R H1 → Q .next s') {p0 p1 ap pos pos2 : Pos} {pl : PySem.Sem Bool}
    (hev : eval (.Call (.Attribute (.Call (.Name "super" p0) [] [] p1) "__init__" ap) [e] [] pos) (scx P w K mg base N st nm qual cc cda f A out s0 H0 E).env = (do
      let ov ← attributeBase (.Call (.Name "super" p0) [] [] p1) "__init__" (scx P w K mg base N st nm qual cc cda f A out s0 H0 E).env (eval (.Call (.Name "super" p0) [] [] p1) (scx P w K mg base N st nm qual cc cda f A out s0 H0 E).env)
      standAt ap.atName
      let (g1, first) ← holding [ov] (getMethod ov "__init__" pl)
      callWith pos g1 first (backTo pos (starEach [e] (scx P w K mg base N st nm qual cc cda f A out s0 H0 E).env)) []) := by rfl)
    (hi : interactive (scx P w K mg base N st nm qual cc cda f A out s0 H0 E).env = false := by rfl) (hs : swapsWith (.Call (.Attribute (.Call (.Name "super" p0) [] [] p1) "__init__" ap) [e] [] pos) none pos2.line (scx P w K mg base N st nm qual cc cda f A out s0 H0 E).env = pure false := by rfl) (hst : starEach [e] (scx P w K mg base N st nm qual cc cda f A out s0 H0 E).env = [(false, eval e (scx P w K mg base N st nm qual cc cda f A out s0 H0 E).env)] := by rfl) :
    PySem.wpAt (model P w) (scx P w K mg base N st nm qual cc cda f A out s0 H0 E).A (.func (defBody st) (scx P w K mg base N st nm qual cc cda f A out s0 H0 E).env) (exec (.Expr (.Call (.Attribute (.Call (.Name "super" p0) [] [] p1) "__init__" ap) [e] [] pos) pos2) (scx P w K mg base N st nm qual cc cda f A out s0 H0 E).env) Q (scx P w K mg base N st nm qual cc cda f A out s0 H0 E).xe s := by
  obtain ⟨⟨oc, od, kV, dV, doc, pm, an, ct, osl, rfl, lk⟩, hcd, ⟨cl, cld, csl, hcell⟩⟩ := F
  obtain ⟨ccl, cdd, vs, ccs, file, tf, hcode, hvs, hfile⟩ := SO.cod
  obtain ⟨ar, hp, har⟩ := SO.par
  have XK := I.kIn
  obtain ⟨cnm, cq, CN, bs, bm, sn, sub, ab, col, dd, k0, k1, k2, k3, k5, hC, hbm⟩ := T.cls
  have hcl : PySem.W.clsIn K D = some { name := cnm, bases := bs, mro := .ref D :: bm, ns := CN, qualname := cq, hasDict := true, slotNames := sn, subclasses := sub, abstract := ab, collection := col, hasDel := false } := by unfold PySem.W.clsIn; rw [hC] <;> rfl
  obtain ⟨t1, hx⟩ := exo_at I.hok ha
  obtain ⟨mb, b1, b2⟩ := I.mod.blt
  obtain ⟨m, hns, look⟩ := I.loc
  have hself : m "self" = some (.ref a) := by
    obtain ⟨u, ru, lo⟩ := look 0 "self" (.ref a) hN hσ (.inl SO.ka)
    cases ru
    rcases lo with ⟨_, h⟩ | ⟨h, _⟩
    · exact h
    · have z : (defScope st).names.lookup ("self" : Str) = some .cell ∨ (defScope st).names.lookup ("self" : Str) = some .free := h
      rw [SO.ka] at z
      rcases z with z | z <;> cases z
  refine PySem.ks_wpAt_Expr_any (PySem.ks_wpAt_MethodCall (PySem.ks_wpAt_super_base SO.ks SO.kc (by decide +kernel) rfl (XK _ _ lk) rfl hp rfl (XK _ _ hcode) rfl hvs hfile SO.top ?_) hev) hi hs
  refine PySem.W.ks_loadName_global SO.kd SO.ks (Calls.loadGlobal_builtin (I.mod.glob.keeps I.bk) SO.mg0 (b1.keeps I.bk) (b2 "super" (by decide)) ⟨rfl, ?_⟩)
  refine wpAny_loadName_free SO.kd SO.kc (by show List.lookup ("__class__" : Str) [(("__class__" : Str), cc)] = some cc; rw [List.lookup_cons, show (("__class__" : Str) == ("__class__" : Str)) = true from by decide +kernel]) ⟨_, XK _ _ hcell, rfl⟩ ?_
  rw [har]
  refine wpAny_loadName_local SO.kd SO.ka hns hself ?_
  obtain ⟨hp0, g, d, t, os⟩ := s
  refine PySem.ks_wpAny_isType_cls (XK _ _ hC) rfl ⟨rfl, ?_⟩
  refine PySem.ks_wpAny_call_super (XK _ _ hC) rfl hx rfl (fun c z => nomatch z) (PySem.W.looks_mroIn XK SO.sub) (fun h' so k => ?_)
  have I1 := I.kept (t' := t) k
  have J : PySem.W.InstAt h' a { cls := .ref D, data := .fields #[.ref t1, .none, .none, .none, .bool false, .none] } D none := ⟨k _ _ hx, rfl, rfl, trivial⟩
  have hm := SO.meth
  unfold PySem.W.ks_superIn at hm
  rw [hcl] at hm
  refine PySem.W.kxs_getMethod PySem.W.kxs_ValueError so (PySem.W.looks_opaque I1.kIn SO.opq) (l₀ := .ref D :: bm) (fun A Q E s k q => ?_) rfl I1.kIn hm (J.type.andThen (PySem.W.looks_subIn I1.kIn SO.ve)) (PySem.W.ks_ne I1.kIn J hcl) (by decide +kernel) ?_
  · exact wpAny_bind ((PySem.W.looks_clsIn I1.kIn hcl) A _ E s k (wpAny_pure q))
  have I2 := ClX.pin_new (a := h'.objs.size) (o := PySem.W.kxs_mw "ValueError.__init__" a) (t' := t + 1) I1 (h' := h'.push (PySem.W.kxs_mw "ValueError.__init__" a)) (fun _ _ z => Heap.get?_push_of_some _ z) (Nat.le_refl _) (Heap.get?_push_size h' rfl) (fun v z => nomatch z)
  have hA := (pa_cons he pa_nil (by rw [hst]; rfl)).run pos _ _ σ H (fun vs H1 => vs.length = 1 ∧ H1 a = some (exo a D none) ∧ R H1) I2 (show te σ H _ from ht)
  rw [hst] at hA ⊢
  refine PySem.W.kxs_callWith (i := "ValueError.__init__") (x := a) rfl (Calls.evalArgs_plain ?_)
  refine thn hA fun us s4 hh => ?_
  obtain ⟨vs4, H4, I4, r4, q3, q4, q5⟩ := hh
  have pin := I4.pin (h'.objs.size, PySem.W.kxs_mw "ValueError.__init__" a) (by simp)
  refine ⟨pin.1, ?_⟩
  have few : us.length ≤ sizeLine := by rw [← Paired.length r4, q3, sizeLine_eq]; decide
  exact call_wrap T I4 q4 pin.1 few fun s5 I5 => hQ s5 H4 (I5.pins_of fun p hp => absurd hp (by simp [scx, ncx])) q4 q5
end
/-! ### what such an __init__ does: self.fld = a number -/
def spF (D : Addr) (fld : Str) : Sp := fun vs H Q _ => ∃ (a : Addr) (r : Int), vs = [.ref a, .int r] ∧ H a = some (exo a D none) ∧ r.natAbs.log2 < 1920 ∧ ∀ dx, H dx = none → dx ≠ a → Q .non (upd (upd H dx (exd dx [(fld, .int r)])) a (exo a D (some dx)))
theorem spF_len {D : Addr} {fld : Str} {n1 n2 : Str} (vs : List V) (H : Hp) (Q : VK) (E : XK) (h : spF D fld vs H Q E) : vs.length = [n1, n2].length := by
  obtain ⟨a, r, rfl, _⟩ := h
  rfl
theorem num_few {r : Int} (h : r.natAbs.log2 < 1920) : (Str.ofString (toString r)).length ≤ 2000 := by
  have := (okN_ok 1 (.int r) (by simpa [okN] using h)).2.2.2
  simpa [PyData.shown, bN] using this
end Ev

namespace Ev
open PySem L2 Evl Dl PySem.Spec PyProof.Rows NdefX
/-! ### an own exception with an own __init__, made of any arguments -/
section
variable {X : Cx} {CX : CXT} {x : Str} {C fI : Addr} {k : Nat} {fd : FuncData} {ps : List Str} {sp : Sp} {ds : List Value} {dvs : List V} {pins : List (Addr × Obj)} {σ : L2.St} {H : Hp} {s : Shared} {us : List Value} {vs : List V} {Q : XK}
def MadeX (C : Addr) (sp : Sp) (dvs : List V) (vs : List V) (H : Hp) (Q : XK) : Prop := vs.length ≤ 1000 ∧ ∀ a, H a = none → sp (.ref a :: (vs ++ dvs)) (upd H a (exo a C none))
  (fun v H2 => v = .non ∧ ∃ (d : Addr) (fs : List (Str × V)), H2 a = some (exo a C (some d)) ∧ H2 d = some (exd d fs) ∧ H d = none ∧ Q (.ref C) (some d) (upd (del H2 a) d (.xd fs))) E0
theorem make_run (T : OexC X.K C) (iC : PySem.W.findIn X.K (.ref C) "__init__" = some (some (.ref fI))) (tI : PySem.W.typeIn X.K (.ref fI) = some (.type "function")) (F1 : FnOk X.prog X.w X.K X.mg X.base CX k fI fd ps sp) (hr : Room (k + 1) X.A) (hb : Binds X.K fd ps ds) (hd : Vals dvs ds) (hx : Passes CX X E0)
    (I : L2.Inv X pins σ H s) (r : Vals vs us) (q : MadeX C sp dvs vs H Q) : wpAny (model X.prog X.w) X.A (call (.ref C) us) (MkP X pins σ Q) X.xe s := by
  obtain ⟨cnm, cq, CN, bs, bm, sn, sub, ab, col, dd, c0, c1, c2, c3, c5, look, tail⟩ := T.cls
  obtain ⟨h0, g0, d0, t0, o0⟩ := s
  obtain ⟨few, made⟩ := q
  let a := h0.objs.size + 1
  let h2 := (h0.push (PySem.W.kdv_tup us)).push (PySem.HandSPX.excO C h0.objs.size)
  have up : h0.objs.size ≤ a := Nat.le_succ _
  have keep : ∀ b o, h0.get? b = some o → h2.get? b = some o := fun b o e => Heap.get?_push_of_some _ (Heap.get?_push_of_some _ e)
  have obj : h2.get? a = some (PySem.HandSPX.excO C h0.objs.size) := by show ((h0.push _).push _).get? (h0.objs.size + 1) = _; heap_get
  have J : L2.Inv X pins σ (upd H a (exo a C none)) ⟨h2, g0, d0, t0, o0⟩ := I.laid (t' := t0) (a := a) (o := exo a C none) (h' := h2) keep up (exo_ok obj)
  have todo := made a (I.hok.fresh up)
  have rr : Vals (V.ref a :: (vs ++ dvs)) (Value.ref a :: (us ++ ds)) := .cons rfl (r.append hd)
  have len : (Value.ref a :: us ++ ds).length = ps.length := by
    have := rr.length
    rw [F1.len _ _ _ _ todo] at this
    exact this.symm
  have short : us.length ≤ sizeLine := by rw [← Paired.length r, sizeLine_eq]; omega
  refine wpAny_call (PySem.HandSPX.call_own PySem.F.excBase_ValueError (fun Y => PySem.HandSPX.refsVE_contains Y bm tail) (I.kIn _ _ look) (PySem.W.looks_findIn I.kIn iC) (fun self => PySem.W.bind_fn I.kIn self tI) short ?_)
  refine codeAny_mono (F1.run _ X.stack _ _ ⟨Value.ref a :: us, []⟩ (Value.ref a :: (us ++ ds)) _ _ E0 (hr.make C us []) (J.env0.make C us []) (hb _ (Value.ref a :: us) J.kIn len) rr todo) fun res s2 z => ?_
  match res, z with
  | .error er, z => exact hx pins σ _ _ er s2 J z
  | .ok .next, z => exact z.elim
  | .ok .brk, z => exact z.elim
  | .ok .cont, z => exact z.elim
  | .ok (.ret u), z =>
    obtain ⟨v, H2, os2, bare2, un2, hok2, rv, rfl, d, fs, ea, ed, hd1, q2⟩ := z
    obtain ⟨h3, g3, d3, t3, o3⟩ := s2
    exact ⟨rv, mk_end (raises_own T.exC T.tyC) I up keep un2 hok2 os2 bare2 ea ed hd1 q2⟩
theorem madeF {fld : Str} {r : Int} (hr : r.natAbs.log2 < 1920) (hv : vs ++ dvs = [.int r]) (q : ∀ d, H d = none → Q (.ref C) (some d) (upd H d (.xd [(fld, .int r)]))) : MadeX C (spF C fld) dvs vs H Q := by
  have few : vs.length ≤ 1000 := by
    have := congrArg List.length hv
    rw [List.length_append] at this
    have l1 : [V.int r].length = 1 := rfl
    omega
  refine ⟨few, fun a ha => ⟨a, r, by rw [hv], upd_same, hr, fun d hd ne => ?_⟩⟩
  rw [upd_ne ne] at hd
  refine ⟨rfl, d, [(fld, .int r)], upd_same, by rw [upd_ne ne, upd_same], hd, ?_⟩
  have e : del (upd (upd (upd H a (exo a C none)) d (exd d [(fld, .int r)])) a (exo a C (some d))) a = upd H d (exd d [(fld, .int r)]) := by
    funext b
    by_cases hb : b = a
    · subst hb
      rw [del_same, upd_ne (Ne.symm ne), ha]
    · rw [del_ne hb, upd_ne hb]
      by_cases hd : b = d
      · subst hd
        rw [upd_same, upd_same]
      · rw [upd_ne hd, upd_ne hd, upd_ne hb]
  rw [e]
  have e2 : upd (upd H d (exd d [(fld, .int r)])) d (.xd [(fld, .int r)]) = upd H d (.xd [(fld, .int r)]) := by
    funext b
    by_cases hb : b = d
    · subst hb
      rw [upd_same, upd_same]
    · rw [upd_ne hb, upd_ne hb, upd_ne hb]
  rw [e2]
  exact q d hd
/-- what the written part and the __init__'s promise tell of such a class -/
structure RaiF (P : Program) (w : World) (K : PySem.W.Frag) (mg : Str → Option Value) (base : Heap) (CX : CXT) (k : Nat) (x : Str) (C : Addr) (fld : Str) (ds : List Value) (dvs : List V) : Prop where
  T : OexC K C
  m : mg x = some (.ref C)
  go : ∃ fI fd, PySem.W.findIn K (.ref C) "__init__" = some (some (.ref fI)) ∧ PySem.W.typeIn K (.ref fI) = some (.type "function") ∧ FnOk P w K mg base CX k fI fd ["self", fld] (spF C fld) ∧ Binds K fd ["self", fld] ds
  dv : Vals dvs ds
def tMk0 (C : Addr) (fld : Str) (r : Int) : L2.St → Hp → XK → Prop := fun _ H Q => ∀ d, H d = none → Q (.ref C) (some d) (upd H d (.xd [(fld, .int r)]))
def tMk1 (C : Addr) (fld : Str) (te : TE) : L2.St → Hp → XK → Prop := fun σ H Q => te σ H fun y H1 => ∃ r : Int, [y] = [V.int r] ∧ r.natAbs.log2 < 1920 ∧ ∀ d, H1 d = none → Q (.ref C) (some d) (upd H1 d (.xd [(fld, .int r)]))
theorem pmk_f0 {fld : Str} {r : Int} {p pos : Pos} (R : RaiF X.prog X.w X.K X.mg X.base CX k x C fld ds [.int r]) (hl : r.natAbs.log2 < 1920) (hr : Room (k + 1) X.A) (hx : Passes CX X E0) (hg : Gl X x) (hdb : (x == ("__debug__" : Str)) = false := by decide) : PMk X (.Call (.Name x p) [] [] pos) (tMk0 C fld r) := by
  obtain ⟨T, m, ⟨fI, fd, iC, tI, F1, hb⟩, dv⟩ := R
  exact fun pins s σ H Q I h => wpAny_Call_Name_kw (ld_glob I hg m (PySem.W.callWith_K0 I.kIn T.kC (make_run (us := []) (vs := []) T iC tI F1 hr hb dv hx I .nil (madeF hl rfl h))) hdb)
theorem pmk_f1 {fld : Str} {e : Expr} {te : TE} {p pos : Pos} (R : RaiF X.prog X.w X.K X.mg X.base CX k x C fld [] []) (he : PE X e te) (hr : Room (k + 1) X.A) (hx : Passes CX X E0) (hg : Gl X x) (hdb : (x == ("__debug__" : Str)) = false := by decide)
    (hs : starEach [e] X.env = (false, eval e X.env) :: starEach [] X.env := by rfl) : PMk X (.Call (.Name x p) [e] [] pos) (tMk1 C fld te) := by
  obtain ⟨T, m, ⟨fI, fd, iC, tI, F1, hb⟩, dv⟩ := R
  refine fun pins s σ H Q I h => wpAny_Call_Name_kw (ld_glob I hg m ?_ hdb)
  refine PySem.W.callWith_K (h₀ := X.base) I.ok.mod.kin T.kC (thn ((pa_cons he pa_nil hs).run pos pins s σ H (fun vs H1 => ∃ r : Int, vs = [.int r] ∧ r.natAbs.log2 < 1920 ∧ ∀ d, H1 d = none → Q (.ref C) (some d) (upd H1 d (.xd [(fld, .int r)]))) I ?_) fun us s1 hh => ?_) hs rfl
  · exact h
  · obtain ⟨vs, H1, I1, r1, r, rfl, hl, q⟩ := hh
    exact ⟨I1.kIn, make_run T iC tI F1 hr hb dv hx I1 r1 (madeF hl rfl q)⟩
end
end Ev

namespace Ev
open PySem L2 Evl Dl PySem.Spec PyProof.Rows NdefX
/-! ### a kept exception's field -/
def tXf2 (C : Addr) (n : Str) (te : TE) : TE := fun σ H Q => te σ H fun x H1 => ∃ (a dd : Addr) (fs : List (Str × V)) (v : V), x = .ref a ∧ H1 a = some (ExD (.ref C) (some dd) a) ∧ H1 dd = some (.xd fs) ∧ fs.lookup n = some v ∧ Q v H1
theorem pe_xf2 {X : Cx} {C : Addr} {e : Expr} {te : TE} {pos : Pos} {n : Str} (T : XfC X.K C) (hno : PySem.W.findIn X.K (.ref C) n = some none) (he : PE X e te) (hb : attributeBase e n X.env (eval e X.env) = eval e X.env := by rfl) : PE X (.Attribute e n pos) (tXf2 C n te) := by
  refine ⟨fun pins s σ H Q I h => attr_of hb (thn (he.run pins s σ H _ I h) fun u s1 hh => ?_)⟩
  obtain ⟨x, H1, I1, rx, a, dd, fs, v, rfl, ha, hx, l, q⟩ := hh
  cases rx
  obtain ⟨⟨⟨oc, odd, oda, osl⟩, vs, hget, ⟨z1, z2⟩, hv⟩, _, _⟩ := I1.hok a _ ha
  dsimp only at z1 z2 hv
  subst z1 z2 hv
  obtain ⟨mA, hns, hr⟩ : ObjOk X.prog X.w H1 s1.heap dd (.xd fs) := I1.hok dd _ hx
  obtain ⟨od, ho, hl⟩ := lookIn_ns hns
  obtain ⟨u, hu, ru⟩ := RelO.some_of (v := v) (o := mA n) (by rw [← l]; exact hr n)
  exact HandSPX.exc_get I1.kIn (show PySem.W.InstAt s1.heap a _ C (some od) from ⟨hget, rfl, rfl, ho⟩) T.ga T.gg T.exC (PySem.W.findObj_own T.hdC hno rfl (by rw [hl, hu])) (handed_of ru) ⟨v, H1, I1.tok _, ru, q⟩
/-! ### in the evaluator -/
def eXf (C : Nat) (n : Str) (m : Env → M (Env × Dv)) : Env → M (Env × Dv) := fun e => (m e).bind fun p => match view p.1 p.2 with
  | some (.exc c) => if 1000000 ≤ c ∧ xCls c = C ∧ xFld c = n then .ret (p.1, .t (.int (xRow c))) else .bad
  | _ => .bad
def sRaise1 (C b : Nat) (m : Env → M (Env × Dv)) : Env → M Out := fun e => (m e).bind fun p => match view p.1 p.2 with
  | some (.int r) => if 0 ≤ r ∧ r.natAbs.log2 < 1920 then .rz p.1 (xcode C b r.toNat) else .bad
  | _ => .bad
def fldB (b : Nat) : Str := if b = 1 then "row" else "at"
theorem xFld_code {C b r : Nat} (hC : C < 1000000) (hb : b < 2) : xFld (xcode C b r) = fldB b := by
  unfold xFld fldB
  rw [(xcode_at hC hb).2.2.1]
section
variable {K : PySem.W.Frag} {f : Fx} {W : WX}
theorem se_xf {C : Addr} {n : Str} {te : TE} {m : Env → M (Env × Dv)} (h : SE K f W te m) : SE K f W (tXf2 C n te) (eXf C n m) := fun N tmp e G H σ Q X s xw w => by
  refine h N tmp e G H σ _ X s xw (wp_imp (wpb w) fun n1 p w1 v G1 H1 x1 sv => ?_)
  have sm := svs_sem sv
  split at w1
  · rename_i c q
    have tz := svs_view sv q
    split at w1
    · rename_i hc
      obtain ⟨c1, c2, c3⟩ := hc
      cases tz with
      | exc ha xo =>
        rcases xo with ⟨l, _⟩ | ⟨_, dd, rfl, hd⟩
        · exact absurd l (Nat.not_lt.mpr c1)
        · rw [c2] at ha
          refine ⟨_, dd, _, .int (xRow c), rfl, ha, hd, ?_, w1 _ G1 H1 x1 (sv_t sm (.int _))⟩
          rw [c3, List.lookup_cons, beq_self_eq_true]
    · exact w1.elim
  · exact w1.elim
/-- a raise of a class with a field: what the hand layer asks, met -/
theorem rz_field {C b r : Nat} {n : Nat} {tmp : List (Addr × List En)} {e : Env} {G H : Hp} {σ : L2.St} {X : Nat → Env → Addr → Prop} (hC : C < 1000000) (hb : b < 2) (s : Sem K f n tmp e G H σ) (xw : XW K f W X) (x : X n e (xcode C b r)) : ∀ d, H d = none → W (.ref C) (some d) σ (upd H d (.xd [(fldB b, .int r)])) := fun d hd => by
  obtain ⟨a1, a2, a3, a4⟩ := xcode_at (r := r) hC hb
  obtain ⟨s2, eg⟩ := s.alloc (ob := .xd [(fldB b, .int r)]) hd trivial
  have := xw n tmp e _ _ σ (xcode C b r) (some d) s2 x (.inr ⟨a1, d, rfl, by rw [upd_same, xFld_code hC hb, a4]⟩)
  rw [a2] at this
  exact this
theorem ss_raise0 {C b r : Nat} (hC : C < 1000000 := by decide) (hb : b < 2 := by decide) : SS K f W (fun _ σ H => tMk0 C (fldB b) r σ H fun cls d H' => W cls d σ H') (sRaise (xcode C b r)) := fun n e G H σ D X s xw w => rz_field hC hb s xw w
theorem ss_raise1 {C b : Nat} {te : TE} {m : Env → M (Env × Dv)} (h : SE K f W te m) (hC : C < 1000000 := by decide) (hb : b < 2 := by decide) : SS K f W (fun _ σ H => tMk1 C (fldB b) te σ H fun cls d H' => W cls d σ H') (sRaise1 C b m) := fun n e G H σ D X s xw w => by
  refine h n [] e G H σ _ X s xw (wp_imp (wpb w) fun n1 p w1 v G1 H1 x1 sv => ?_)
  have sm := svs_sem sv
  split at w1
  · rename_i r q
    have tz := svs_view sv q
    split at w1
    · rename_i hc
      obtain ⟨c1, c2⟩ := hc
      cases tz
      have := rz_field hC hb sm xw w1
      rw [Int.toNat_of_nonneg c1] at this
      exact ⟨r, rfl, c2, this⟩
    · exact w1.elim
  · exact w1.elim
end
end Ev

namespace Ev
open PySem L2 Evl Dl PySem.Spec PyProof.Rows NdefX
/-! ### what must be read off the written part for a class with a field -/
def oexB (K : PySem.W.Frag) (C : Addr) : Bool := (match K.lookup C with
  | some ⟨.type "type", _, .cls cd, sl⟩ => (match cd.mro, sl.toList with
    | .ref C' :: bm, [_, _, _, _, some (.builtin n), _] => C' == C && n == "ValueError.__new__" && cd.hasDict && !cd.hasDel && PySem.HandSPX.refsVE bm
    | _, _ => false)
  | _ => false) && (PySem.W.findIn K (.ref C) "__setattr__" == some (some (.builtin "object.__setattr__")) && (PySem.W.subIn K (.ref C) (.type "BaseException") == some true && (PySem.W.typeIn K (.ref C) == some (.type "type") && PySem.W.keepIn K (.ref C))))
theorem oexB_ok {K : PySem.W.Frag} {C : Addr} (h : oexB K C = true) : OexC K C := by
  unfold oexB at h
  simp only [Bool.and_eq_true, beq_iff_eq] at h
  obtain ⟨h0, h1, h2, h3, h4⟩ := h
  refine ⟨?_, h1, h2, h3, h4⟩
  split at h0
  · rename_i dd cd sl ho
    split at h0
    · rename_i C' bm k0 k1 k2 k3 n k5 hm hs
      simp only [Bool.and_eq_true, beq_iff_eq, Bool.not_eq_true'] at h0
      obtain ⟨⟨⟨⟨rfl, rfl⟩, hd⟩, hdel⟩, hr⟩ := h0
      obtain ⟨nm, bs, mro, ns, qn, hdct, sn, sub, ab, col, del⟩ := cd
      dsimp only at hm hd hdel
      subst hm hd hdel
      have hsl : sl = #[k0, k1, k2, k3, some (.builtin "ValueError.__new__"), k5] := by
        obtain ⟨l⟩ := sl
        simp only at hs
        rw [hs]
      subst hsl
      exact ⟨_, _, _, _, _, _, _, _, _, _, _, _, _, _, _, ho, hr⟩
    · cases h0
  · cases h0
def supB (K : PySem.W.Frag) (D cda : Addr) (file : Str) : Bool := (PySem.W.mroIn K D (.ref D) == some true) && ((PySem.W.ks_superIn K D D "__init__" == some (some (.builtin "ValueError.__init__"))) && ((PySem.W.subIn K (.ref D) (.type "ValueError") == some true) && ((PySem.W.nsIn K cStatics "thirdparty.any" == some none) && (match K.lookup cda with
  | some ⟨_, _, .fields vs, _⟩ => (match (vs[2]? : Option Value) with
    | some (.str f _) => file == f
    | _ => false)
  | _ => false))))
theorem supB_ok {P : Program} {K : PySem.W.Frag} {mg : Str → Option Value} {st : Stmt} {D cda : Addr} (h : supB K D cda P.main.file = true) (top : (P.main.scope.names.lookup ("super" : Str)).isSome = false) (mg0 : mg "super" = none) (ks : (defScope st).names.lookup ("super" : Str) = some .globalImplicit)
    (kc : (defScope st).names.lookup ("__class__" : Str) = some .free) (ka : (defScope st).names.lookup ("self" : Str) = some .local) (par : ∃ ar, ((defArgs st).posonlyargs ++ (defArgs st).args).head? = some ar ∧ ar.arg = "self") (kd : (defScope st).kind = .function) : SupOk P K mg st D cda := by
  unfold supB at h
  simp only [Bool.and_eq_true, beq_iff_eq] at h
  obtain ⟨h1, h2, h3, h4, h5⟩ := h
  refine ⟨h1, h2, h3, h4, ?_, top, mg0, ks, kc, ka, par, kd⟩
  split at h5
  · rename_i ccl cdd vs ccs ho
    split at h5
    · rename_i f tf hv
      exact ⟨ccl, cdd, vs, ccs, f, tf, ho, hv, h5⟩
    · cases h5
  · cases h5
/-! ### its defaults -/
section
variable {K : PySem.W.Frag} {x qual : Str} {params : Arguments} {body : List Stmt} {scope : Scope} {cl : List (Str × Addr)} {ps : List Str} {dV kV doc pm cdv ct : Value} {an : Option Addr}
theorem bindsX {T : Addr} {dvs : List V} (t : dflB K T dvs = true) (h : ∀ us its : List Value, its.length = dvs.length → (us ++ its).length = ps.length →
      ∃ k, bindArgs (PySem.W.fnX x qual params body scope cl (.ref T) kV doc pm an cdv ct) ⟨us, []⟩ = seqItems? (.ref T) >>= k ∧ k (some its.toArray) = pure (ps.zip (us ++ its))) : ∃ ds, Binds K (PySem.W.fnX x qual params body scope cl (.ref T) kV doc pm an cdv ct) ps ds ∧ Vals dvs ds := by
  unfold dflB at t
  split at t
  · rename_i o ho
    split at t
    · rename_i its n hn
      have rv := relsB_ok t
      refine ⟨its.toList, fun s us X hl => ?_, rv⟩
      obtain ⟨k, e1, e2⟩ := h us its.toList rv.length.symm hl
      refine BindsTo.of_looks fun M => ?_
      rw [e1]
      exact looks_items X ho (by rw [hn]) (.of_pure e2)
    · cases t
  · cases t
theorem bindsX1 {T : Addr} {dvs : List V} (t : dflB K T dvs = true) (hp : ps.length = 2) (hd : dvs.length = 1) (h : ∀ u v : Value, ∃ k, bindArgs (PySem.W.fnX x qual params body scope cl (.ref T) kV doc pm an cdv ct) ⟨[u], []⟩ = seqItems? (.ref T) >>= k ∧ k (some #[v]) = pure (ps.zip [u, v])) :
    ∃ ds, Binds K (PySem.W.fnX x qual params body scope cl (.ref T) kV doc pm an cdv ct) ps ds ∧ Vals dvs ds := by
  refine bindsX t fun us its h1 h2 => ?_
  rw [hd] at h1
  rw [List.length_append, h1, hp] at h2
  match us, its, h1, h2 with
  | [u], [v], _, _ => exact h u v
end
end Ev
namespace Ev
open PySem L2 Evl Dl
def exmB (K : PySem.W.Frag) (rs : List Addr) (CE : Addr) : Bool := rs.all fun C => PySem.W.exmOne K (.ref C) (.ref CE) == some true
theorem exmB_of {K : PySem.W.Frag} {rs : List Addr} {CE : Addr} (h : exmB K rs CE = true) : ∀ C, exmL rs C = true → PySem.W.exmOne K (.ref C) (.ref CE) = some true := fun C hc => beq_iff_eq.mp (List.all_eq_true.mp h C (List.contains_iff_mem.mp hc))
end Ev

/-! try with a clause that has no name -/
namespace Ev
open PySem L2 Evl Dl
def tTryO (K : PySem.W.Frag) (c : Value) (tb : WX → TS) (th : TS) (Wout : WX) : TS := fun D σ H => tb (wOnly K c (fun _ _ _ => th) Wout D) D σ H
def tryO (exm : Addr → Bool) (hd : Env → M Out) : M Out → M Out
  | .ret o => .ret o
  | .draw m k => .draw m fun r => tryO exm hd (k r)
  | .rz e C => if exm C = true then hd e else .bad
  | .bad => .bad
def sTryO (exm : Addr → Bool) (hd : Env → M Out) (body : Env → M Out) : Env → M Out := fun e => tryO exm hd (body e)
theorem wp_tryO {exm : Addr → Bool} {hd : Env → M Out} {P : Nat → Out → Prop} {X : Nat → Env → Addr → Prop} : ∀ {m : M Out} {n : Nat}, wp (tryO exm hd m) n P X → wp m n P (fun n e C => exm C = true ∧ wp (hd e) n P X)
  | .ret a, n, h => h
  | .draw m g, n, h => ⟨h.1, h.2.1, h.2.2.1, fun r h0 h1 => wp_tryO (h.2.2.2 r h0 h1)⟩
  | .rz e C, n, h => by
    unfold tryO at h
    split at h
    · rename_i q
      exact ⟨q, h⟩
    · exact h.elim
  | .bad, n, h => h
section
variable {K : PySem.W.Frag} {f : Fx} {W : WX}
theorem ss_tryO {exm : Addr → Bool} {cc : Value} {tb : WX → TS} {th : TS} {body hd : Env → M Out} (hx : ∀ C, exm C = true → PySem.W.exmOne K (.ref (xCls C)) cc = some true) (hb : ∀ f' W', SS K f' W' (tb W') body) (hh : SS K f W th hd) : SS K f W (tTryO K cc tb th W) (sTryO exm hd body) := fun n e G H σ D X s xw w => by
  have s0 := s
  obtain ⟨o0, re0, j0⟩ := s
  unfold tTryO
  refine hb ⟨f.pu, f.H0, G⟩ _ n e G H σ D (fun n' e' C => exm C = true ∧ wp (hd e') n' (PO K f G D) X) (sem_in s0) (fun n' tmp' e' G' H' σ' C d s' x xo => ?_) (wp_imp (wp_tryO w) fun n' ou w' => ?_)
  · obtain ⟨x1, x2⟩ := x
    refine ⟨true, hx C x1, fun _ a ha => ?_, fun z => by cases z⟩
    have s1 := (sem_out s0 s').drop0
    obtain ⟨o', re', j'⟩ := s'
    exact hh n' e' G' H' σ' D X s1 xw (wp_imp x2 fun _ _ q => q.mono j'.g0)
  · cases ou with
    | nx e' => exact fun σ' G' H' x s' => w' σ' G' H' x (sem_out s0 s')
    | bk e' => exact fun σ' G' H' x s' => w' σ' G' H' x (sem_out s0 s')
    | ct e' => exact fun σ' G' H' x s' => w' σ' G' H' x (sem_out s0 s')
    | rt r =>
      intro v G' H' x rv
      refine w' v G' H' x ?_
      cases r with
      | t y => exact ⟨jout j0 rv.1, rv.2⟩
      | fr ts =>
        obtain ⟨D', h1, h2⟩ := rv
        exact ⟨D', h1, jout j0 h2⟩
end
/-! ### the same at the level of Wp -/
end Ev

/-! max of a list of ints; zfill; lstrip of signs; an exchange with a written place -/
namespace Ev
open PySem L2 Evl Dl
section
variable {X : Cx}
theorem cr_maxN (hc : X.calm = true) : CallR X (.builtin "max") (rMax X.K) := cr_max hc
end
def rZfill : V → List V → Hp → VK → Prop := fun x xs H Q => ∃ (a : Str) (i : Int), x = .str a ∧ xs = [.int i] ∧ PadOk i = true ∧ Q (.str (Txt.zfill a i)) H
def rLstrip : V → List V → Hp → VK → Prop := fun x xs H Q => ∃ a b, x = .str a ∧ xs = [.str b] ∧ a.length ≤ sizeLine ∧ Q (.str (Txt.lstripChars a b)) H
theorem mt_zfillS {X : Cx} : MtR X "str.zfill" rZfill := mt_zfill
theorem mt_lstripS {X : Cx} : MtR X "str.lstrip" rLstrip := mt_lstripChars
def gZfill : Str → List Tr → Option Tr := fun a xs => match xs with
  | [.int i] => if 0 ≤ i ∧ i ≤ 100000 then some (.str (Txt.zfill a i)) else none
  | _ => none
def gLstrip : Str → List Tr → Option Tr := fun a xs => match xs with
  | [.str b] => if a.length + 2 ≤ 100000 then some (.str (Txt.lstripChars a b)) else none
  | _ => none
section
variable {K : PySem.W.Frag} {f : Fx} {W : WX} {G H : Hp} {n : Nat} {σ : St} {e : Env} {tmp : List (Addr × List En)}
theorem se_zfill {to : TE} {ta : TA} {mo : Env → M (Env × Dv)} {ma : Env → M (Env × List Dv)} (ho : SE K f W to mo) (ha : SA K f W ta ma) : SE K f W (tBM K "str" rZfill to ta) (eSM gZfill mo ma) := by
  refine se_sm (fun a xs z q => ?_) (fun H a vs xs z Q al q k => ?_) ho ha
  · unfold gZfill at q
    split at q
    · split at q
      · cases q; rfl
      · cases q
    · cases q
  · unfold gZfill at q
    split at q
    · rename_i i
      split at q
      · rename_i hc
        cases q
        cases al with
        | cons t1 al =>
          cases al
          cases t1
          exact ⟨a, i, rfl, rfl, PyProof.Rows.padOk_of (i := i) (by omega) (by omega), k⟩
      · cases q
    · cases q
theorem se_lstrip {to : TE} {ta : TA} {mo : Env → M (Env × Dv)} {ma : Env → M (Env × List Dv)} (ho : SE K f W to mo) (ha : SA K f W ta ma) : SE K f W (tBM K "str" rLstrip to ta) (eSM gLstrip mo ma) := by
  refine se_sm (fun a xs z q => ?_) (fun H a vs xs z Q al q k => ?_) ho ha
  · unfold gLstrip at q
    split at q
    · split at q
      · cases q; rfl
      · cases q
    · cases q
  · unfold gLstrip at q
    split at q
    · rename_i b
      split at q
      · rename_i hc
        cases q
        cases al with
        | cons t1 al =>
          cases al
          cases t1
          exact ⟨a, b, rfl, rfl, by rw [sizeLine_eq]; omega, k⟩
      · cases q
    · cases q
/-! ### max of a list of ints -/
def maxInt : List Int → Option Int
  | [] => none
  | x :: r => some (r.foldl (fun a b => if a < b then b else a) x)
def oMax1 : Env → List Dv → M (Env × Dv) := fun e ds => match ds with
  | [d] => match seqv e d with
    | some (false, ts) => match intsT ts with
      | some ns => match maxInt ns with
        | some m => .ret (e, .t (.int m))
        | none => .bad
      | none => .bad
    | _ => .bad
  | _ => .bad
theorem maxInt_all {ns : List Int} {m : Int} (h : maxInt ns = some m) : m ∈ ns ∧ ∀ y ∈ ns, y ≤ m := by
  cases ns with
  | nil => cases h
  | cons x r =>
    simp only [maxInt, Option.some.injEq] at h
    have key : ∀ (r : List Int) (x : Int), (r.foldl (fun a b => if a < b then b else a) x ∈ x :: r) ∧ ∀ y ∈ x :: r, y ≤ r.foldl (fun a b => if a < b then b else a) x := by
      intro r
      induction r with
      | nil => intro x; simp
      | cons y r ih =>
        intro x
        obtain ⟨a, b⟩ := ih (if x < y then y else x)
        simp only [List.foldl_cons]
        refine ⟨?_, fun z hz => ?_⟩
        · rcases List.mem_cons.mp a with a | a
          · rw [a]
            split <;> simp
          · exact List.mem_cons_of_mem _ (List.mem_cons_of_mem _ a)
        · have hb := b (if x < y then y else x) (List.mem_cons_self ..)
          have hle : x ≤ (if x < y then y else x) ∧ y ≤ (if x < y then y else x) := by
            split <;> omega
          rcases List.mem_cons.mp hz with rfl | hz
          · exact Int.le_trans hle.1 hb
          · rcases List.mem_cons.mp hz with rfl | hz
            · exact Int.le_trans hle.2 hb
            · exact b z (List.mem_cons_of_mem _ hz)
    obtain ⟨a, b⟩ := key r x
    rw [h] at a b
    exact ⟨a, b⟩
theorem os_max1 : OS K f W (fun _ => rMax K) oMax1 := fun n tmp e G H σ ds vs Q X s xw w => by
  unfold oMax1 at w
  split at w
  · rename_i d
    obtain ⟨v, rfl⟩ := vs1 s
    have sm := svs_sem s
    split at w
    · rename_i ts q
      obtain ⟨a, xs, rfl, sq, al⟩ := svs_seq s q
      split at w
      · rename_i ns q2
        split at w
        · rename_i m q3
          have hx := intsT_ok q2 al
          subst hx
          have hpos : 0 < ns.length := by
            cases ns with
            | nil => cases q3
            | cons _ _ => exact Nat.succ_pos _
          obtain ⟨m1, m2⟩ := maxInt_all q3
          refine ⟨a, ns, rfl, sq_of sq, hpos, fun k h1 h2 => ?_⟩
          have e0 : k = m := by
            have := h2 m m1
            have := m2 k h1
            omega
          subst e0
          exact w _ G H (Ex.refl G) (sv_t sm (.int _))
        · exact w.elim
      · exact w.elim
    · exact w.elim
  · exact w.elim
/-! ### xs[i], xs[k] = a, b with a written k -/
def sSwapC (l i : Nat) (k : Int) (a : Env → M (Env × Dv)) : Env → M Out := fun e => (a e).bind fun p => match p.2, p.1[l]?, p.1[i]? with
  | .t (.tup [x, y]), some (.live ts), some (.t (.int k1)) => match ixN ts.length k1, ixN ts.length k with
    | some j1, some j2 => .ret (.nx (p.1.set l (.live ((ts.set j1 x).set j2 y))))
    | _, _ => .bad
  | _, _, _ => .bad
theorem ss_swapC {l i : Nat} {k : Int} {te : TE} {a : Env → M (Env × Dv)} (ha : SE K f W te a) (hli : l ≠ i) : SS K f W (tAsg te (gTup K 2 (gCons (gSub (tVar l) (tVar i) rSetL) (gCons (gSub (tVar l) (tC (.int k)) rSetL) gNil)))) (sSwapC l i k a) := fun n e G H σ D X s xw w => by
  refine ha n [] e G H σ _ X s xw (wp_imp (wpb w) fun n1 p w1 v G1 H1 x1 sv => ?_)
  obtain ⟨e1, d⟩ := p
  dsimp only at w1 sv
  split at w1
  · rename_i x y ts k1 ql qi
    split at w1
    · rename_i j1 j2 p1 p2
      obtain ⟨tk, s1⟩ := sv_t_iff.mp sv
      cases tk with
      | tup sq al =>
        rename_i ad xs
        cases al with
        | cons t1 al =>
          cases al with
          | cons t2 al =>
            cases al
            obtain ⟨D0, us, hu, hD, alu⟩ := sem_live s1 ql
            have vi : σ[i]? = some (some (.int k1)) := by
              obtain ⟨o, re, jj⟩ := s1
              obtain ⟨v, q1, q2⟩ := re.getT qi
              cases q2
              exact q1
            have s2 := s1.setL ql hu (alu.setAt j1 t1)
            have ql2 : (e1.set l (.live (ts.set j1 x)))[l]? = some (.live (ts.set j1 x)) := List.getElem?_set_self (List.getElem?_eq_some_iff.mp ql).1
            have s3 := s2.setL ql2 hu ((alu.setAt j1 t1).setAt j2 t2)
            rw [List.set_set] at s3
            refine ⟨ad, _, rfl, ex_t s1.ex sq, rfl, ?_⟩
            refine ⟨_, _, rfl, _, hu, _, vi, D0, us, k1, j1, rfl, rfl, hD, by rw [alu.len]; exact p1, ?_⟩
            refine ⟨_, _, rfl, _, hu, D0, _, k, j2, rfl, rfl, upd_same, by rw [List.length_set, alu.len]; exact p2, rfl, ?_⟩
            exact w1 σ G1 _ x1 s3
    · exact w1.elim
  · exact w1.elim
/-! ### int of a text of figures -/
def rIntTx : List V → Hp → VK → Prop := fun xs H Q => ∃ a n, xs = [.str a] ∧ PySem.intText? a = some n ∧ a.length ≤ 640 ∧ Q (.int n) H
theorem cr_intTx {X : Cx} : CallR X (.type "int") rIntTx := call_int_str
def gIntTx : Tr → Option Tr
  | .str x => if x.length ≤ 640 then (PySem.intText? x).map .int else none
  | _ => none
theorem os_intTx : OS K f W (fun _ => rIntTx) (o1 gIntTx) := by
  refine os_1b (fun x z q => ?_) (fun H x z v Q a q k => ?_)
  · unfold gIntTx at q
    split at q
    · split at q
      · rename_i x _
        cases h : PySem.intText? x with
        | none => rw [h] at q; cases q
        | some i => rw [h] at q; cases q; rfl
      · cases q
    · cases q
  · unfold gIntTx at q
    split at q
    · split at q
      · rename_i x hl
        cases h : PySem.intText? x with
        | none => rw [h] at q; cases q
        | some i =>
          rw [h] at q
          cases q
          cases a
          exact ⟨x, i, rfl, h, hl, k⟩
      · cases q
    · cases q
end
end Ev

/-! exceptions of own classes: made with a value by name, made as values, raised with any text -/
namespace PySem
namespace KwX
open Builtin PySem.HandSPX
section
variable {P : Program} {wd : World} {ar : Around} {QE : Value → Shared → Prop} {RR : Result → Shared → Prop} {hp : Heap} {gs : Array GenState} {dr : Drawn} {tk : Nat} {io : OsState}
variable {nme qul : Str} {cl nsp : Addr} {bss mro bml : List Value} {hd : Bool} {sl : List Str} {sb : List Value} {abs : Bool} {cln : Option Bool} {cd : Option Addr} {p0 p1 p2 p3 p5 : Option Value} {bn ni ii : String} {kw : List (Str × Value)}
theorem fresh_kw (F : ExcBaseFacts bn ni ii bml) (same : ∀ nn : String, mro.contains (.type nn) = bml.contains (.type nn))
    (at_ : hp.get? cl = some (excClassObj nme qul cl nsp bss mro hd sl sb abs cln cd p0 p1 p2 p3 p5 ni))
    (fin : RR (.ok (.ret (.ref (hp.objs.size + 1)))) ⟨(hp.push (W.kdv_tup [])).push (excO cl hp.objs.size), gs, dr, tk, io⟩) :
    codeAny (model P wd) ar (.builtin ni ⟨[.ref cl], kw⟩) RR ⟨hp, gs, dr, tk, io⟩ := by
  have ends0 := F.ends
  have inB : (Value.ref cl :: mro).contains (.type bn) = true := by
    rw [List.contains_cons, same, F.hasB]
    exact Bool.or_true _
  have inA : (Value.ref cl :: mro).contains (.type "AttributeError") = false := by
    rw [List.contains_cons, same, F.noAttr]
    rfl
  have inN : (Value.ref cl :: mro).contains (.type "NameError") = false := by
    rw [List.contains_cons, same, F.noName]
    rfl
  refine codeAny_builtinAt F.entry (show wpAt _ _ _ (Builtin.«BaseException.__new__» ⟨[.ref cl], kw⟩) _ _ _ from ?_)
  delta Builtin.«BaseException.__new__»
  refine wpAt_bind (show wpAt _ _ _ (stack >>= _) _ _ _ from ?_)
  refine wpAt_bind (wpAt_stack fun top rest0 => wpAt_of_wpAny ?_)
  wp_walk
  refine wpAt_of_wpAny (by
    rw [F.owner]
    repeat (first
      | with_reducible refine wpAny_madeHere_exc F.canon at_ ?_
      | with_reducible refine wpAny_loadPart_at at_ ?_
      | (with_reducible refine wpAny_isSubtype_exc at_ ?_; first | rw [inB] | rw [inA] | rw [inN])
      | wp_step)
    show RR _ _
    rw [Heap.size_push]
    exact fin)
theorem look_kw (F : ExcBaseFacts bn ni ii bml) (same : ∀ nn : String, mro.contains (.type nn) = bml.contains (.type nn)) {M : Model} {Q : Unit → Shared → Prop}
    (at_ : hp.get? cl = some (excClassObj nme qul cl nsp bss mro hd sl sb abs cln cd p0 p1 p2 p3 p5 ni)) (fin : Q () ⟨hp, gs, dr, tk, io⟩) : wpAny M ar (checkBuiltinCall ni ⟨[.ref cl], kw⟩) Q QE ⟨hp, gs, dr, tk, io⟩ := by
  have inB : (Value.ref cl :: mro).contains (.type bn) = true := by
    rw [List.contains_cons, same, F.hasB]
    exact Bool.or_true _
  have short0 := F.noStar
  simp only [checkBuiltinCall, F.newKind, F.newSplit, F.newRow]
  repeat (first
    | refine wpAny_loadPart_at at_ ?_
    | (refine wpAny_isSubtype_exc at_ ?_; rw [inB])
    | refine wpAny_staticBase_exc at_ ?_
    | refine wpAny_madeBy_exc at_ ?_
    | simp only [bne_self_eq_false, Bool.false_eq_true, if_false]
    | wp_step)
  exact fin
theorem type_kw {fI : Addr} {Q : Fin → Shared → Prop} (F : ExcBaseFacts bn ni ii bml) (same : ∀ nn : String, mro.contains (.type nn) = bml.contains (.type nn))
    (at_ : hp.get? cl = some (excClassObj nme qul cl nsp bss mro hd sl sb abs cln cd p0 p1 p2 p3 p5 ni))
    (fi : W.Looks (model P wd) hp (typeLookup (.ref cl) "__init__") (some (.ref fI))) (fb : ∀ me, W.Looks (model P wd) hp (bindSpecial (.ref fI) me) (.ref fI, [me]))
    (fin : codeAny (model P wd) ar (.call (.ref fI) ⟨[.ref (hp.objs.size + 1)], kw⟩)
      (fun res sh => match res with
        | .ok (.ret v) => v = .none ∧ Q (.done (.ret (.ref (hp.objs.size + 1)))) sh
        | .ok _ => False
        | .error e => QE e sh) ⟨(hp.push (W.kdv_tup [])).push (excO cl hp.objs.size), gs, dr, tk, io⟩) :
    wpAny (model P wd) ar (Builtin.«type.__call__» ⟨[.ref cl], kw⟩) Q QE ⟨hp, gs, dr, tk, io⟩ := by
  repeat (first
    | with_reducible refine wpAny_loadPart_at at_ ?_
    | with_reducible refine wpAny_madeBy_exc at_ ?_
    | wp_step)
  refine codeAny_call_builtin_code (Code.quiet_builtin _ F.quiet) (look_kw F same at_ (fresh_kw F same at_ ?_))
  show wpAny _ _ _ _ _ _
  have on2 : ∀ b o, hp.get? b = some o → ((hp.push (W.kdv_tup [])).push (excO cl hp.objs.size)).get? b = some o := fun b o e =>
    Heap.get?_push_of_some _ (Heap.get?_push_of_some _ e)
  have at2 := on2 _ _ at_
  have new2 : ((hp.push (W.kdv_tup [])).push (excO cl hp.objs.size)).get? (hp.objs.size + 1) = some (excO cl hp.objs.size) := by
    heap_get
  have own2 : (Value.ref cl :: mro).contains (.ref cl) = true := by
    simp
  have fi2 := fi.keeps on2
  have fb2 := (fb (.ref (hp.objs.size + 1))).keeps on2
  delta isInstance
  repeat (first
    | with_reducible refine wpAny_loadPart_at new2 ?_
    | (with_reducible refine wpAny_isSubtype_exc at2 ?_; rw [own2])
    | wp_step)
  refine (show wpAny _ _ (typeLookup (.ref cl) _) _ _ _ from ?_)
  refine fi2.at ?_
  refine wpAny_holding (wpAny_bind (fb2.at ?_))
  refine wpAny_bind (wpAny_call (codeAny_mono fin fun res sh zz => ?_))
  match res, zz with
  | .error e, zz => exact zz
  | .ok .next, zz => exact zz.elim
  | .ok .brk, zz => exact zz.elim
  | .ok .cont, zz => exact zz.elim
  | .ok (.ret v), zz =>
    obtain ⟨rfl, zz⟩ := zz
    first
      | exact wpAny_pure (wpAny_pure zz)
      | (wp_walk; exact zz)
end
end KwX
end PySem

namespace PySem
namespace KwX
open Builtin PySem.HandSPX
section
variable {P : Program} {wd : World} {ar : Around} {QE : Value → Shared → Prop} {RR : Result → Shared → Prop} {hp : Heap} {gs : Array GenState} {dr : Drawn} {tk : Nat} {io : OsState}
variable {nme qul : Str} {cl nsp : Addr} {bss mro bml : List Value} {hd : Bool} {sl : List Str} {sb : List Value} {abs : Bool} {cln : Option Bool} {cd : Option Addr} {p0 p1 p2 p3 p5 : Option Value} {bn ni ii : String} {kw : List (Str × Value)}
theorem call_kw {fI : Addr} (F : ExcBaseFacts bn ni ii bml) (same : ∀ nn : String, mro.contains (.type nn) = bml.contains (.type nn))
    (at_ : hp.get? cl = some (excClassObj nme qul cl nsp bss mro hd sl sb abs cln cd p0 p1 p2 p3 p5 ni))
    (fi : W.Looks (model P wd) hp (typeLookup (.ref cl) "__init__") (some (.ref fI))) (fb : ∀ me, W.Looks (model P wd) hp (bindSpecial (.ref fI) me) (.ref fI, [me]))
    (fin : codeAny (model P wd) (ar.under (.builtin "type.__call__" ⟨[.ref cl], kw⟩)) (.call (.ref fI) ⟨[.ref (hp.objs.size + 1)], kw⟩) (W.InitBack (hp.objs.size + 1) RR)
      ⟨(hp.push (W.kdv_tup [])).push (excO cl hp.objs.size), gs, dr, tk, io⟩) :
    codeAny (model P wd) ar (.call (.ref cl) ⟨[], kw⟩) RR ⟨hp, gs, dr, tk, io⟩ := by
  have look1 := tc_lookup
  have look2 := tc_bind (.ref cl)
  have isTy : (⟨hp, gs, dr, tk, io⟩ : Shared).TypeIs (.ref cl) "type" := ⟨_, at_, rfl⟩
  refine codeAny_of_tree (show wpAny _ _ (callAny (.ref cl) _) _ _ _ from ?_)
  repeat (any_goals (first
    | assumption
    | with_reducible refine wpAny_loadPart_at at_ ?_
    | wp_step))
  refine ⟨rfl, codeAny_call_builtin_at (Code.quiet_builtin _ (by decide +kernel)) entry_typeCall (wpAny_check_type_call_sub at_ (type_kw F same at_ fi fb ?_))⟩
  refine codeAny_mono fin fun res sh zz => ?_
  match res, zz with
  | .error e, zz => exact zz
  | .ok .next, zz => exact zz
  | .ok .brk, zz => exact zz
  | .ok .cont, zz => exact zz
  | .ok (.ret v), zz => exact zz
end
end KwX
end PySem

namespace Ev
open PySem L2 Evl Dl PySem.Spec PyProof.Rows NdefX
/-! ### what makes an exception, as a value -/
section
variable {X : Cx} {CX : CXT} {x : Str} {C fI : Addr} {k : Nat} {fd : FuncData} {ps : List Str} {pins : List (Addr × Obj)} {σ : L2.St} {H : Hp} {s : Shared}
def tEx (t : L2.St → Hp → XK → Prop) : TE := fun σ H Q => t σ H fun cls d H1 => ∀ a, H1 a = none → Q (.ref a) (upd H1 a (ExD cls d a))
theorem pe_mk {e : Expr} {t : L2.St → Hp → XK → Prop} (h : PMk X e t) : PE X e (tEx t) := by
  refine ⟨fun pins s σ H Q I q => wpAny_mono (h pins s σ H _ I q) (fun u s1 hu => ?_) fun _ _ z => z⟩
  obtain ⟨a, oe, vs, sI, H1, cls, d, rfl, J, on, gone, at_, zc, df, _, na, os, bare, _, go⟩ := hu
  have ok : ObjOk X.prog X.w (upd H1 a (ExD cls d a)) s1.heap a (ExD cls d a) := ⟨⟨oe, vs, at_, zc, df⟩, ⟨oe, at_⟩, fun _ _ ⟨o, v, q1, q2⟩ kk => ⟨o, v, kk o q1, q2⟩⟩
  have J1 := J.laidN (t' := s1.toks) on gone na ok
  exact ⟨.ref a, upd H1 a (ExD cls d a), ⟨J1.ok, os.trans J1.os, bare, J1.base, J1.loc, J1.cell, J1.free, J1.freeC, J1.pin, J1.hok, J1.len⟩, rfl, go a na⟩
/-! ### own classes without an __init__: of nothing, of any text -/
theorem pmk_p0 {p pos : Pos} (R : Rai X.K X.mg x C) (hg : Gl X x) (hdb : (x == ("__debug__" : Str)) = false := by decide) : PMk X (.Call (.Name x p) [] [] pos) (fun _ H Q => Q (.ref C) none H) := by
  intro pins s σ H Q I h
  refine wpAny_Call_Name_kw (ld_glob I hg R.g ?_ hdb)
  refine PySem.W.callWith_K0 I.kIn R.k ?_
  obtain ⟨bm, N, nm, qn, bs, hdct, sn, sub, ab, col, dd, k0, k1, k2, k3, k5, mN, hC, hN, hni, T⟩ := exc_obj I.kIn R.x
  refine wpAny_call_exc_subT PySem.F.excBase_ValueError T hC hN hni (fun h' e hm => ?_) (by show 0 ≤ sizeLine; exact Nat.zero_le _)
  exact mk_of I hm (raises_own R.b R.t) h (I.hok.gone hm.new)
theorem pmk_p1 {e : Expr} {te : TE} {p pos : Pos} (R : Rai X.K X.mg x C) (he : PE X e te) (hg : Gl X x) (hdb : (x == ("__debug__" : Str)) = false := by decide)
    (hs : starEach [e] X.env = (false, eval e X.env) :: starEach [] X.env := by rfl) : PMk X (.Call (.Name x p) [e] [] pos) (fun σ H Q => te σ H fun _ H1 => Q (.ref C) none H1) := by
  intro pins s σ H Q I h
  refine wpAny_Call_Name_kw (ld_glob I hg R.g ?_ hdb)
  refine PySem.W.callWith_K (h₀ := X.base) I.ok.mod.kin R.k (thn ((pa_cons he pa_nil hs).run pos pins s σ H (fun vs H1 => vs.length = 1 ∧ Q (.ref C) none H1) I ?_) fun us s1 hh => ?_) hs rfl
  · show te σ H fun v H1 => [v].length = 1 ∧ Q (.ref C) none H1
    have : (fun (_ : V) (H1 : Hp) => Q (.ref C) none H1) = fun v H1 => [v].length = 1 ∧ Q (.ref C) none H1 := by
      funext v H1
      exact propext ⟨fun z => ⟨rfl, z⟩, fun z => z.2⟩
    rw [← this]
    exact h
  · obtain ⟨vs, H1, I1, r1, l1, q⟩ := hh
    refine ⟨I1.kIn, ?_⟩
    have l2 : us.length = 1 := by rw [← Paired.length r1, l1]
    show wpAny _ _ (call (.ref C) us) _ _ _
    obtain ⟨bm, N, nm, qn, bs, hdct, sn, sub, ab, col, dd, k0, k1, k2, k3, k5, mN, hC, hN, hni, T⟩ := exc_obj I1.kIn R.x
    refine wpAny_call_exc_subT PySem.F.excBase_ValueError T hC hN hni (fun h' e hm => ?_) (by rw [l2, sizeLine_eq]; decide)
    exact mk_of I1 hm (raises_own R.b R.t) q (I1.hok.gone hm.new)
/-! ### an own class with an own __init__, handed its value by name -/
theorem make_kw {u : Value} {v : V} {fld : Str} {Q : XK} {r : Int} (T : OexC X.K C) (iC : PySem.W.findIn X.K (.ref C) "__init__" = some (some (.ref fI))) (tI : PySem.W.typeIn X.K (.ref fI) = some (.type "function")) (F1 : FnOk X.prog X.w X.K X.mg X.base CX k fI fd ["self", fld] (spF C fld)) (hr : Room (k + 1) X.A)
    (hb : ∀ (s : Shared) (me : Value), X.K.In s.heap → BindsTo s fd ⟨[me], [(fld, u)]⟩ ((["self", fld] : List Str).zip [me, u])) (hx : Passes CX X E0) (I : L2.Inv X pins σ H s) (ru : RelV v u) (hv : v = .int r) (hl : r.natAbs.log2 < 1920)
    (q : ∀ d, H d = none → Q (.ref C) (some d) (upd H d (.xd [(fld, .int r)]))) : wpAny (model X.prog X.w) X.A (call (.ref C) [] [(fld, u)]) (MkP X pins σ Q) X.xe s := by
  subst hv
  obtain ⟨cnm, cq, CN, bs, bm, sn, sub, ab, col, dd, c0, c1, c2, c3, c5, look, tail⟩ := T.cls
  have made := (madeF (C := C) (fld := fld) (r := r) (vs := [.int r]) (dvs := []) (H := H) (Q := Q) hl rfl q).2
  obtain ⟨h0, g0, d0, t0, o0⟩ := s
  let me := h0.objs.size + 1
  let h2 := (h0.push (PySem.W.kdv_tup [])).push (PySem.HandSPX.excO C h0.objs.size)
  have above : h0.objs.size ≤ me := Nat.le_succ _
  have on2 : ∀ b o, h0.get? b = some o → h2.get? b = some o := fun b o e =>
    Heap.get?_push_of_some _ (Heap.get?_push_of_some _ e)
  have obj2 : h2.get? me = some (PySem.HandSPX.excO C h0.objs.size) := by
    show ((h0.push _).push _).get? (h0.objs.size + 1) = _
    heap_get
  have J2 : L2.Inv X pins σ (upd H me (exo me C none)) ⟨h2, g0, d0, t0, o0⟩ := I.laid (t' := t0) (a := me) (o := exo me C none) (h' := h2) on2 above (exo_ok obj2)
  have todo := made me (I.hok.fresh above)
  have both : Vals (V.ref me :: ([.int r] ++ [])) [Value.ref me, u] := .cons rfl (.cons ru .nil)
  refine wpAny_call (PySem.KwX.call_kw PySem.F.excBase_ValueError (fun Y => PySem.HandSPX.refsVE_contains Y bm tail) (I.kIn _ _ look) (PySem.W.looks_findIn I.kIn iC) (fun me => PySem.W.bind_fn I.kIn me tI) ?_)
  refine codeAny_mono (F1.run _ X.stack _ _ ⟨[Value.ref me], [(fld, u)]⟩ [Value.ref me, u] _ _ E0 (hr.make C [] [(fld, u)]) (J2.env0.make C [] [(fld, u)]) (hb _ (Value.ref me) J2.kIn) both todo) fun res s2 zz => ?_
  match res, zz with
  | .error er, zz => exact hx pins σ _ _ er s2 J2 zz
  | .ok .next, zz => exact zz.elim
  | .ok .brk, zz => exact zz.elim
  | .ok .cont, zz => exact zz.elim
  | .ok (.ret w), zz =>
    obtain ⟨v3, H3, os3, bare3, un3, hok3, rv, rfl, d, fs, ea, ed, hd1, q3⟩ := zz
    obtain ⟨h3, g3, d3, t3, o3⟩ := s2
    exact ⟨rv, mk_end (raises_own T.exC T.tyC) I above on2 un3 hok3 os3 bare3 ea ed hd1 q3⟩
structure RaiK (P : Program) (w : World) (K : PySem.W.Frag) (mg : Str → Option Value) (base : Heap) (CX : CXT) (k : Nat) (x : Str) (C : Addr) (fld : Str) : Prop where
  T : OexC K C
  m : mg x = some (.ref C)
  go : ∃ fI fd, PySem.W.findIn K (.ref C) "__init__" = some (some (.ref fI)) ∧ PySem.W.typeIn K (.ref fI) = some (.type "function") ∧ FnOk P w K mg base CX k fI fd ["self", fld] (spF C fld) ∧ ∀ (u : Value) (s : Shared) (me : Value), K.In s.heap → BindsTo s fd ⟨[me], [(fld, u)]⟩ ((["self", fld] : List Str).zip [me, u])
theorem pmk_fk {fld : Str} {kws : List Keyword} {te : TE} {p pos : Pos} (R : RaiK X.prog X.w X.K X.mg X.base CX k x C fld) (hkw : PK X kws (tCons te tNil)) (hr : Room (k + 1) X.A) (hx : Passes CX X E0) (hg : Gl X x) (hdb : (x == ("__debug__" : Str)) = false := by decide)
    (hall : (backToKw pos (keywordEach kws X.env)).all (·.1.isSome) = true := by rfl) (hks : (backToKw pos (keywordEach kws X.env)).filterMap (·.1) = [fld] := by rfl) (hpl : ((backTo pos (starEach [] X.env)).any (·.1) || (backToKw pos (keywordEach kws X.env)).any (·.1.isNone)) = false := by rfl) : PMk X (.Call (.Name x p) [] kws pos) (tMk1 C fld te) := by
  obtain ⟨T, m, ⟨fI, fd, iC, tI, F1, hb⟩⟩ := R
  refine fun pins s σ H Q I h => wpAny_Call_Name_kw (ld_glob I hg m ?_ hdb)
  refine PySem.W.callWith_KW0 (h₀ := X.base) I.ok.mod.kin T.kC hall (thn (hkw.run pos pins s σ H (fun zs H1 => ∃ r : Int, zs = [.int r] ∧ r.natAbs.log2 < 1920 ∧ ∀ d, H1 d = none → Q (.ref C) (some d) (upd H1 d (.xd [(fld, .int r)]))) I h) fun ws s2 hh => ?_) hpl
  obtain ⟨zs, H1, I1, rz, r, rfl, hl, q⟩ := hh
  refine ⟨I1.kIn, ?_⟩
  rw [hks]
  match ws, rz with
  | [u], .cons ru .nil => exact make_kw T iC tI F1 hr (hb u) hx I1 ru rfl hl q
end
/-! ### in the evaluator -/
def eMk0 (c : Nat) : Env → M (Env × Dv) := fun e => .ret (e, .t (.exc c))
def eMk1 (C b : Nat) (m : Env → M (Env × Dv)) : Env → M (Env × Dv) := fun e => (m e).bind fun p => match view p.1 p.2 with
  | some (.int r) => if 0 ≤ r ∧ r.natAbs.log2 < 1920 then .ret (p.1, .t (.exc (xcode C b r.toNat))) else .bad
  | _ => .bad
def sRaiseE (C : Nat) (m : Env → M (Env × Dv)) : Env → M Out := fun e => (m e).bind fun p => .rz p.1 C
section
variable {K : PySem.W.Frag} {f : Fx} {W : WX}
theorem mk_field {C b r : Nat} {n : Nat} {tmp : List (Addr × List En)} {e : Env} {G H : Hp} {σ : L2.St} {Q : VK} (hC : C < 1000000) (hb : b < 2) (s : Sem K f n tmp e G H σ) (w : ∀ v G' H', Ex G G' → SV K f n tmp e G' H' σ (.t (.exc (xcode C b r))) v → Q v H') :
    ∀ d, H d = none → ∀ a, upd H d (.xd [(fldB b, .int r)]) a = none → Q (.ref a) (upd (upd H d (.xd [(fldB b, .int r)])) a (ExD (.ref C) (some d) a)) := fun d hd a ha => by
  obtain ⟨a1, a2, a3, a4⟩ := xcode_at (r := r) hC hb
  obtain ⟨s2, eg⟩ := s.alloc (ob := .xd [(fldB b, .int r)]) hd trivial
  obtain ⟨s3, eg3⟩ := s2.alloc (ob := ExD (.ref C) (some d) a) ha trivial
  have at1 : (upd (upd G d (.xd [(fldB b, .int r)])) a (ExD (.ref C) (some d) a)) a = some (ExD (.ref (xCls (xcode C b r))) (some d) a) := by rw [upd_same, a2]
  have xo : XO (upd G d (.xd [(fldB b, .int r)])) (xcode C b r) (some d) := .inr ⟨a1, d, rfl, by rw [upd_same, xFld_code hC hb, a4]⟩
  exact w _ _ _ (eg.trans eg3) (sv_t s3 (.exc at1 (xo.mono eg3)))
theorem se_mk0f {C b r : Nat} (hC : C < 1000000 := by decide) (hb : b < 2 := by decide) : SE K f W (tEx (tMk0 C (fldB b) r)) (eMk0 (xcode C b r)) := fun n tmp e G H σ Q X s xw w => by
  show ∀ d, H d = none → ∀ a, _
  exact mk_field hC hb s w
theorem se_mk1f {C b : Nat} {te : TE} {m : Env → M (Env × Dv)} (h : SE K f W te m) (hC : C < 1000000 := by decide) (hb : b < 2 := by decide) : SE K f W (tEx (tMk1 C (fldB b) te)) (eMk1 C b m) := fun n tmp e G H σ Q X s xw w => by
  refine h n tmp e G H σ _ X s xw (wp_imp (wpb w) fun n1 p w1 v G1 H1 x1 sv => ?_)
  have sm := svs_sem sv
  split at w1
  · rename_i r q
    have tz := svs_view sv q
    split at w1
    · rename_i hc
      obtain ⟨c1, c2⟩ := hc
      cases tz
      have h2 := mk_field (r := r.toNat) (Q := Q) hC hb sm fun v G' H' x2 sv2 => w1 v G' H' (x1.trans x2) sv2
      rw [Int.toNat_of_nonneg c1] at h2
      exact ⟨r, rfl, c2, h2⟩
    · exact w1.elim
  · exact w1.elim
theorem ss_raiseP {C : Nat} (hC : C < 1000000 := by decide) : SS K f W (fun _ σ H => (fun (_ : L2.St) (H : Hp) (Q : XK) => Q (.ref C) none H) σ H fun cls d H' => W cls d σ H') (sRaise C) := ss_raise hC
theorem ss_raiseE {C : Nat} {te : TE} {m : Env → M (Env × Dv)} (h : SE K f W te m) (hC : C < 1000000 := by decide) : SS K f W (fun _ σ H => (fun (σ : L2.St) (H : Hp) (Q : XK) => te σ H fun _ H1 => Q (.ref C) none H1) σ H fun cls d H' => W cls d σ H') (sRaiseE C m) := fun n e G H σ D X s xw w => by
  refine h n [] e G H σ _ X s xw (wp_imp (wpb w) fun n1 p w1 v G1 H1 x1 sv => ?_)
  have sm := svs_sem sv
  have := xw n1 [] p.1 G1 H1 σ C none sm w1 (.inl ⟨hC, rfl⟩)
  rw [xCls_small hC] at this
  exact this
end
/-! ### the value by name: what the def binds -/
section
variable {K : PySem.W.Frag} {x qual : Str} {params : Arguments} {body : List Stmt} {scope : Scope} {cl : List (Str × Addr)} {dV kV doc pm cdv ct : Value} {an : Option Addr}
theorem bindsXA {fld : Str} {T : Addr} {dvs : List V} (t : dflB K T dvs = true) (hd : dvs.length = 1) (h : ∀ u v w : Value, ∃ k, bindArgs (PySem.W.fnX x qual params body scope cl (.ref T) kV doc pm an cdv ct) ⟨[u, v], []⟩ = seqItems? (.ref T) >>= k ∧ k (some #[w]) = pure ((["self", fld] : List Str).zip [u, v])) :
    Binds K (PySem.W.fnX x qual params body scope cl (.ref T) kV doc pm an cdv ct) ["self", fld] [] := by
  unfold dflB at t
  split at t
  · rename_i o ho
    split at t
    · rename_i its n hn
      have rv := relsB_ok t
      have l1 : its.toList.length = 1 := by
        rw [← Paired.length rv, hd]
      obtain ⟨w, hw⟩ : ∃ w, its = #[w] := by
        obtain ⟨l⟩ := its
        match l, l1 with
        | [w], _ => exact ⟨w, rfl⟩
      intro s us X hl
      rw [List.append_nil] at hl ⊢
      match us, hl with
      | [u, v], _ =>
        obtain ⟨k, e1, e2⟩ := h u v w
        refine BindsTo.of_looks fun M => ?_
        rw [e1]
        refine looks_items X ho (by rw [hn]) (.of_pure ?_)
        rw [hw]
        exact e2
    · cases t
  · cases t
theorem bindsXK {fld : Str} {T : Addr} {dvs : List V} (t : dflB K T dvs = true) (hd : dvs.length = 1) (h : ∀ u v w : Value, ∃ k, bindArgs (PySem.W.fnX x qual params body scope cl (.ref T) kV doc pm an cdv ct) ⟨[u], [(fld, v)]⟩ = seqItems? (.ref T) >>= k ∧ k (some #[w]) = pure ((["self", fld] : List Str).zip [u, v])) :
    ∀ (u : Value) (s : Shared) (me : Value), K.In s.heap → BindsTo s (PySem.W.fnX x qual params body scope cl (.ref T) kV doc pm an cdv ct) ⟨[me], [(fld, u)]⟩ ((["self", fld] : List Str).zip [me, u]) := by
  unfold dflB at t
  split at t
  · rename_i o ho
    split at t
    · rename_i its n hn
      have rv := relsB_ok t
      have l1 : its.toList.length = 1 := by
        rw [← Paired.length rv, hd]
      obtain ⟨w, hw⟩ : ∃ w, its = #[w] := by
        obtain ⟨l⟩ := its
        match l, l1 with
        | [w], _ => exact ⟨w, rfl⟩
      intro u s me X
      obtain ⟨k, e1, e2⟩ := h me u w
      refine BindsTo.of_looks fun M => ?_
      rw [e1]
      refine looks_items X ho (by rw [hn]) (.of_pure ?_)
      rw [hw]
      exact e2
    · cases t
  · cases t
end
end Ev

namespace My
open PySem L2 Evl Dl Ev
def RSn : List Addr := [238, 250, 157, 85, 145, 121, 109, 202, 97, 61, 73, 262, 226, 190, 133, 37, 49, 214]
def RS : List Addr := [238, 250, 157, 85, 145, 121, 109, 202, 97, 61, 73, 262, 226, 190, 133, 178, 284, 37, 49, 214]
def CS : List Addr := [238, 250, 157, 85, 145, 121, 109, 202, 97, 61, 73, 262, 226, 190, 133, 178, 284, 37, 49, 214]
def mb__law_marks : Ev.Env → M Out := (sSeq (sSet 1 (eLst (aCons (evO (oIsi (kxL RS CS)) (aCons (eVar 0) (aCons (eV (.ref 37)) aNil))) (aCons (evO (oIsi (kxL RS CS)) (aCons (eVar 0) (aCons (eV (.ref 49)) aNil))) (aCons (evO (oIsi (kxL RS CS)) (aCons (eVar 0) (aCons (eV (.ref 61)) aNil))) aNil)))))
  (sSeq (sSet 1 (evO oAdd (aCons (eVar 1) (aCons (eLst (aCons (evO (oIsi (kxL RS CS)) (aCons (eVar 0) (aCons (eV (.ref 73)) aNil))) (aCons (evO (oIsi (kxL RS CS)) (aCons (eVar 0) (aCons (eV (.ref 85)) aNil))) (aCons (evO (oIsi (kxL RS CS)) (aCons (eVar 0) (aCons (eV (.ref 97)) aNil))) aNil)))) aNil))))
  (sSeq (sSet 1 (evO oAdd (aCons (eVar 1) (aCons (eLst (aCons (evO (oIsi (kxL RS CS)) (aCons (eVar 0) (aCons (eV (.ref 109)) aNil))) (aCons (evO (oIsi (kxL RS CS)) (aCons (eVar 0) (aCons (eV (.ref 121)) aNil))) (aCons (evO (oIsi (kxL RS CS)) (aCons (eVar 0) (aCons (eV (.ref 133)) aNil))) aNil)))) aNil))))
  (sSeq (sSet 1 (evO oAdd (aCons (eVar 1) (aCons (eLst (aCons (evO (oIsi (kxL RS CS)) (aCons (eVar 0) (aCons (eV (.ref 145)) aNil))) (aCons (evO (oIsi (kxL RS CS)) (aCons (eVar 0) (aCons (eV (.ref 157)) aNil))) (aCons (evO (oIsi (kxL RS CS)) (aCons (eVar 0) (aCons (eV (.ref 178)) aNil))) aNil)))) aNil))))
  (sSeq (sSet 1 (evO oAdd (aCons (eVar 1) (aCons (eLst (aCons (evO (oIsi (kxL RS CS)) (aCons (eVar 0) (aCons (eV (.ref 190)) aNil))) (aCons (evO (oIsi (kxL RS CS)) (aCons (eVar 0) (aCons (eV (.ref 202)) aNil))) (aCons (evO (oIsi (kxL RS CS)) (aCons (eVar 0) (aCons (eV (.ref 214)) aNil))) aNil)))) aNil))))
  (sSeq (sSet 1 (evO oAdd (aCons (eVar 1) (aCons (eLst (aCons (evO (oIsi (kxL RS CS)) (aCons (eVar 0) (aCons (eV (.ref 226)) aNil))) (aCons (evO (oIsi (kxL RS CS)) (aCons (eVar 0) (aCons (eV (.ref 238)) aNil))) (aCons (evO (oIsi (kxL RS CS)) (aCons (eVar 0) (aCons (eV (.ref 250)) aNil))) aNil)))) aNil))))
  (sSeq (sSet 1 (evO oAdd (aCons (eVar 1) (aCons (eLst (aCons (evO (oIsi (kxL RS CS)) (aCons (eVar 0) (aCons (eV (.ref 262)) aNil))) (aCons (evO (oIsi (kxL RS CS)) (aCons (eVar 0) (aCons (eV (.ref 284)) aNil))) aNil))) aNil))))
  (sRet (eLc (iRange1 (aCons (evO oLen (aCons (eVar 1) aNil)) aNil)) (bName 2) (tVal (evO oIx (aCons (eVar 1) (aCons (eVar 2) aNil)))) (eVar 2) [2])))))))))
@[irreducible] def F__law_marks : List Slot → M Rv := fnOf 3 mb__law_marks
def mb__law_first : Ev.Env → M Out := (sSeq (sIf (tVal (evO (o2 (gEq false)) (aCons (eVar 0) (aCons (eT (.int 0)) aNil)))) (sRaise 37) sNext)
  (sSeq (sIf (tVal (evO (o2 (gEq false)) (aCons (eVar 0) (aCons (eT (.int 1)) aNil)))) (sRaise 49) sNext)
  (sSeq (sIf (tVal (evO (o2 (gEq false)) (aCons (eVar 0) (aCons (eT (.int 2)) aNil)))) (sRaise 61) sNext)
  (sSeq (sIf (tVal (evO (o2 (gEq false)) (aCons (eVar 0) (aCons (eT (.int 3)) aNil)))) (sRaise 73) sNext)
  (sSeq (sIf (tVal (evO (o2 (gEq false)) (aCons (eVar 0) (aCons (eT (.int 4)) aNil)))) (sRaise 85) sNext)
  (sSeq (sIf (tVal (evO (o2 (gEq false)) (aCons (eVar 0) (aCons (eT (.int 5)) aNil)))) (sRaise 97) sNext)
  (sSeq (sIf (tVal (evO (o2 (gEq false)) (aCons (eVar 0) (aCons (eT (.int 6)) aNil)))) (sRaise 109) sNext)
  (sSeq (sIf (tVal (evO (o2 (gEq false)) (aCons (eVar 0) (aCons (eT (.int 7)) aNil)))) (sRaise 121) sNext)
  (sSeq (sIf (tVal (evO (o2 (gEq false)) (aCons (eVar 0) (aCons (eT (.int 8)) aNil)))) (sRaise 133) sNext)
  (sIf (tVal (evO (o2 (gEq false)) (aCons (eVar 0) (aCons (eT (.int 9)) aNil)))) (sRaise 145) sNext))))))))))
@[irreducible] def F__law_first : List Slot → M Rv := fnOf 1 mb__law_first
def mb__law_third : Ev.Env → M Out := (sSeq (sIf (tVal (evO (o2 (gEq false)) (aCons (eVar 0) (aCons (eT (.int 22)) aNil)))) (sRaiseE 37 (eVar 1)) sNext)
  (sSeq (sIf (tVal (evO (o2 (gEq false)) (aCons (eVar 0) (aCons (eT (.int 23)) aNil)))) (sRaiseE 61 (eVar 1)) sNext)
  (sSeq (sIf (tVal (evO (o2 (gEq false)) (aCons (eVar 0) (aCons (eT (.int 24)) aNil)))) (sRaiseE 121 (eVar 1)) sNext)
  (sSeq (sIf (tVal (evO (o2 (gEq false)) (aCons (eVar 0) (aCons (eT (.int 25)) aNil)))) (sRaise 190) sNext)
  (sSeq (sIf (tVal (evO (o2 (gEq false)) (aCons (eVar 0) (aCons (eT (.int 26)) aNil)))) (sRaise 238) sNext)
  (sSeq (sIf (tVal (evO (o2 (gEq false)) (aCons (eVar 0) (aCons (eT (.int 27)) aNil)))) (sRaise 262) sNext)
  (sIf (tVal (evO (o2 (gEq false)) (aCons (eVar 0) (aCons (eT (.int 28)) aNil)))) (sRaiseE 49 (eVar 1)) sNext)))))))
@[irreducible] def F__law_third : List Slot → M Rv := fnOf 2 mb__law_third
def mb__law_due : Ev.Env → M Out := (sRet (evO oIx (aCons (evO oAdd (aCons (eLrg (eT (.int 20))) (aCons (eLst (aCons (eT (.int 19)) (aCons (eT (.int 19)) (aCons (eT (.int 0)) (aCons (eT (.int 2)) (aCons (eT (.int 7)) (aCons (eT (.int 12)) (aCons (eT (.int 16)) (aCons (eT (.int 18)) (aCons (eT (.int 1)) aNil)))))))))) aNil))) (aCons (eVar 0) aNil))))
@[irreducible] def F__law_due : List Slot → M Rv := fnOf 1 mb__law_due
def mb__law_second : Ev.Env → M Out := (sSeq (sIf (tVal (evO (o2 (gEq false)) (aCons (eVar 0) (aCons (eT (.int 10)) aNil)))) (sRaiseE 157 (eVar 2)) sNext)
  (sSeq (sIf (tVal (evO (o2 (gEq false)) (aCons (eVar 0) (aCons (eT (.int 11)) aNil)))) (sRaise1 178 0 (eVar 1)) sNext)
  (sSeq (sIf (tVal (evO (o2 (gEq false)) (aCons (eVar 0) (aCons (eT (.int 12)) aNil)))) (sRaiseE 190 (eVar 2)) sNext)
  (sSeq (sIf (tVal (evO (o2 (gEq false)) (aCons (eVar 0) (aCons (eT (.int 13)) aNil)))) (sRaiseE 202 (eVar 2)) sNext)
  (sSeq (sIf (tVal (evO (o2 (gEq false)) (aCons (eVar 0) (aCons (eT (.int 14)) aNil)))) (sRaiseE 214 (eVar 2)) sNext)
  (sSeq (sIf (tVal (evO (o2 (gEq false)) (aCons (eVar 0) (aCons (eT (.int 15)) aNil)))) (sRaiseE 226 (eVar 2)) sNext)
  (sSeq (sIf (tVal (evO (o2 (gEq false)) (aCons (eVar 0) (aCons (eT (.int 16)) aNil)))) (sRaiseE 238 (eVar 2)) sNext)
  (sSeq (sIf (tVal (evO (o2 (gEq false)) (aCons (eVar 0) (aCons (eT (.int 17)) aNil)))) (sRaiseE 250 (eVar 2)) sNext)
  (sSeq (sIf (tVal (evO (o2 (gEq false)) (aCons (eVar 0) (aCons (eT (.int 18)) aNil)))) (sRaiseE 262 (eVar 2)) sNext)
  (sSeq (sIf (tVal (evO (o2 (gEq false)) (aCons (eVar 0) (aCons (eT (.int 19)) aNil)))) (sRaise1 284 1 (eVar 1)) sNext)
  (sSeq (sIf (tVal (evO (o2 (gEq false)) (aCons (eVar 0) (aCons (eT (.int 20)) aNil)))) (sRaise1 284 1 (eVar 1)) sNext)
  (sIf (tVal (evO (o2 (gEq false)) (aCons (eVar 0) (aCons (eT (.int 21)) aNil)))) (sRaise (xcode 284 1 0)) sNext))))))))))))
@[irreducible] def F__law_second : List Slot → M Rv := fnOf 3 mb__law_second
def mb__law_caught : Ev.Env → M Out := (sSeq (sSet 3 (eT .non))
  (sSeq (sTry (fun c => exmL RS (xCls c)) 4 3 (sSeq (sDrop (evCall F__law_first 1 (aCons (eVar 0) aNil)))
  (sSeq (sDrop (evCall F__law_second 3 (aCons (eVar 0) (aCons (eVar 1) (aCons (eVar 2) aNil)))))
  (sDrop (evCall F__law_third 2 (aCons (eVar 0) (aCons (eVar 2) aNil)))))))
  (sRet (eVar 3))))
@[irreducible] def F__law_caught : List Slot → M Rv := fnOf 5 mb__law_caught
def mb_law : Ev.Env → M Out := (sSeq (sSet 2 (eLst aNil))
  (sSeq (sFor (iRange1 (aCons (eT (.int 7)) aNil)) (bName 3) (sSeq (sSet 4 (eDraw (aCons (eVar 1) (aCons (eT (.int 29)) aNil))))
  (sSeq (sSet 5 (eDraw (aCons (eVar 1) (aCons (evO oPow (aCons (eT (.int 10)) (aCons (eT (.int 29)) aNil))) aNil))))
  (sSeq (sSet 6 (evO oMulV (aCons (eT (.str "no")) (aCons (eDraw (aCons (eVar 1) (aCons (eT (.int 4)) aNil))) aNil))))
  (sSeq (sSet 7 (evCall F__law_caught 3 (aCons (eVar 4) (aCons (eVar 5) (aCons (eVar 6) aNil)))))
  (sSeq (sIf (tOrM (tVal (evO (o2 (gIs false)) (aCons (eVar 7) (aCons (eT .non) aNil)))) (tOrM (tVal (evO (o2 (gEq true)) (aCons (evCall F__law_marks 1 (aCons (eVar 7) aNil)) (aCons (eLst (aCons (evCall F__law_due 1 (aCons (eVar 4) aNil)) aNil)) aNil)))) (tNotM (tVal (evO (oIsi (kxL RS CS)) (aCons (eVar 7) (aCons (eV (.ty "ValueError")) aNil))))))) (sRet (eT (.bl false))) sNext)
  (sSeq (sIf (tVal (evO (o2 (gIn false)) (aCons (eVar 4) (aCons (eLst (aCons (eT (.int 19)) (aCons (eT (.int 20)) (aCons (eT (.int 21)) aNil)))) aNil)))) (sDrop (eLM gApp 2 (aCons (eTup (aCons (eVar 7) (aCons (ePick (aCons (eVar 5) (aCons (eT (.int 0)) aNil)) (evO (o1 gInt) (aCons (evO (o2 (gEq false)) (aCons (eVar 4) (aCons (eT (.int 21)) aNil))) aNil))) aNil))) aNil))) sNext)
  (sSeq (sSet 8 (eMk1 178 0 (eVar 5)))
  (sIf (tOrM (tVal (evO (o2 (gEq true)) (aCons (eXf 178 "at" (eVar 8)) (aCons (eVar 5) aNil)))) (tOrM (tVal (evO (o2 (gEq true)) (aCons (eXf 284 "row" (eMk0 (xcode 284 1 0))) (aCons (eT (.int 0)) aNil)))) (tVal (evO (o2 (gEq true)) (aCons (eXf 284 "row" (eMk1 284 1 (eVar 5))) (aCons (eVar 5) aNil)))))) (sRet (eT (.bl false))) sNext)))))))))
  (sRet (evO (o2 (gEq false)) (aCons (eLc (iSeq (eVar 2)) (bTup 2 (bCons (bName 7) (bCons (bName 9) bNil))) (tVal (evO (o2 (gEq true)) (aCons (eXf 284 "row" (eVar 7)) (aCons (eVar 9) aNil)))) (eVar 7) [7, 9]) (aCons (eLst aNil) aNil))))))
end My

namespace My
open PySem L2 Evl Dl Ev

def frT : M Rv → Option (List (List Int))
  | .ret (.fr ts) => tupsT ts
  | _ => none
theorem frT_eq {m : M Rv} {ls : List (List Int)} (h : frT m = some ls) : m = .ret (.fr (ls.map trI)) := by
  unfold frT at h
  split at h
  · rw [tupsT_eq h]
  · cases h
def ledL (ns t : List Int) : List Int := [0, 1, 2, 3, 4, 5].map fun j => ns.getD (t.idxOf j) 0
def PA (ns : List Int) : Prop := ns.length = 6 ∧ ∀ i ∈ ns, 0 ≤ i
theorem six_of {ns : List Int} (h : ns.length = 6) : ∃ a b c d e f, ns = [a, b, c, d, e, f] := by
  match ns, h with
  | [a, b, c, d, e, f], _ => exact ⟨a, b, c, d, e, f, rfl⟩
theorem toDs_ints (ns : List Int) : toDs (ns.map .int) = ns.map PyData.int := by rw [toDs_map, List.map_map]; rfl
theorem toD_trI (ns : List Int) : toD (trI ns) = tupD ns := by unfold trI tupD; rw [toD, toDs_ints]
theorem toDs_tups (L : List (List Int)) : toDs (L.map trI) = L.map tupD := by
  rw [toDs_map, List.map_map]
  congr 1
  funext ns
  exact toD_trI ns
theorem okT_trI (k : Nat) (ns : List Int) : okT (k + 2) (trI ns) = true := by
  unfold trI okT
  rw [List.all_eq_true]
  intro x m
  obtain ⟨i, _, rfl⟩ := List.mem_map.mp m
  rfl
theorem okT_tups (k : Nat) (L : List (List Int)) : okT (k + 3) (.lst (L.map trI)) = true := by
  unfold okT
  rw [List.all_eq_true]
  intro x m
  obtain ⟨i, _, rfl⟩ := List.mem_map.mp m
  exact okT_trI k i
theorem eqvAll_tups : ∀ a b : List (List Int), PyData.eqvAll (a.map tupD) (b.map tupD) = decide (a = b)
  | [], [] => by simp [PyData.eqvAll]
  | [], _ :: _ => by simp [PyData.eqvAll]
  | _ :: _, [] => by simp [PyData.eqvAll]
  | x :: a, y :: b => by
    simp only [List.map_cons, PyData.eqvAll, eqv_tup, eqvAll_tups a b]
    by_cases h : x = y <;> by_cases h2 : a = b <;> simp [h, h2]
theorem eqv_tups (a b : List (List Int)) : PyData.eqv (.list (a.map tupD)) (.list (b.map tupD)) = decide (a = b) := by
  unfold PyData.eqv
  exact eqvAll_tups a b
theorem gEq_tup (n : Bool) (a b : List Int) : gEq n (trI a) (trI b) = some (.bl (n != decide (a = b))) := by
  unfold gEq
  rw [okT_trI 18 a, okT_trI 18 b, toD_trI, toD_trI, eqv_tup]
  rfl
theorem gEq_tups (n : Bool) (a b : List (List Int)) : gEq n (.lst (a.map trI)) (.lst (b.map trI)) = some (.bl (n != decide (a = b))) := by
  unfold gEq
  rw [okT_tups 17 a, okT_tups 17 b]
  show some (Tr.bl (n != PyData.eqv (toD (.lst (a.map trI))) (toD (.lst (b.map trI))))) = _
  rw [show toD (.lst (a.map trI)) = .list (toDs (a.map trI)) by rw [toD], show toD (.lst (b.map trI)) = .list (toDs (b.map trI)) by rw [toD], toDs_tups, toDs_tups, eqv_tups]
theorem gEq_int (n : Bool) (a b : Int) : gEq n (.int a) (.int b) = some (.bl (n != decide (a = b))) := by
  show some (Tr.bl (n != PyData.eqv (.int a) (.int b))) = _
  rw [eqv_int]
theorem o2E {g : Tr → Tr → Option Tr} {e : Ev.Env} {d1 d2 : Dv} {x y z : Tr} (h1 : view e d1 = some x) (h2 : view e d2 = some y) (h3 : g x y = some z) : o2 g e [d1, d2] = .ret (e, .t z) := by
  unfold o2 oPure
  rw [show views e [d1, d2] = some [x, y] by simp [views, h1, h2]]
  simp only [h3]
theorem okSort_of {ls : List (List Int)} {d : Nat} (hd : 1 ≤ d) (hl : ls.length < 64) (h : ∀ a ∈ ls, a.length = d ∧ ∀ i ∈ a, 0 ≤ i) : okSort ls = true := by
  cases ls with
  | nil => rfl
  | cons l r =>
    unfold okSort
    simp only [Bool.and_eq_true, decide_eq_true_eq, List.all_eq_true]
    have hl0 := (h l (List.mem_cons_self ..)).1
    exact ⟨⟨by omega, fun a m => ⟨by rw [(h a m).1, hl0], fun i mi => (h a m).2 i mi⟩⟩, hl⟩
theorem bls_true {α : Type} (l : List α) : blsOf (l.map fun _ => Tr.bl true) = some (l.map fun _ => true) := by
  induction l with
  | nil => rfl
  | cons a l ih => simp [blsOf, ih]
theorem all_true {α : Type} (l : List α) : (l.map fun _ => true).all id = true := by simp
theorem pairI_map {α : Type} (f g : α → Tr) : ∀ l : List α, pairI (l.map f) (l.map g) = l.map fun t => .two (f t) (g t)
  | [] => rfl
  | a :: l => by simp [pairI, pairI_map f g l]
theorem seqZ {a b : Ev.Env → M Out} {e e' : Ev.Env} {C : Addr} (h : a e = .rz e' C) : sSeq a b e = .rz e' C := by unfold sSeq; rw [h]; rfl
theorem callZ {F : List Slot → M Rv} {k : Nat} {ar : Ev.Env → M (Ev.Env × List Dv)} {e e1 e2 e3 : Ev.Env} {ds : List Dv} {ss : List Slot} {C : Addr} (h : ar e = .ret (e1, ds)) (h2 : slotsOf e1 ds = some (e2, ss)) (hk : ss.length = k) (hF : F ss = .rz e3 C) : evCall F k ar e = .rz e1 C := by
  unfold evCall
  rw [h]
  show (match slotsOf e1 ds with | none => M.bad | some (e2, ss) => if ss.length = k then (reRz e1 (F ss)).bind (retD e1 e2) else .bad) = _
  rw [h2]
  show (if ss.length = k then (reRz e1 (F ss)).bind (retD e1 e2) else .bad) = _
  rw [if_pos hk, hF]
  rfl
theorem dropZ {m : Ev.Env → M (Ev.Env × Dv)} {e e' : Ev.Env} {C : Addr} (h : m e = .rz e' C) : sDrop m e = .rz e' C := by unfold sDrop; rw [h]; rfl
theorem fnZ {N : Nat} {body : Ev.Env → M Out} {ss : List Slot} {e' : Ev.Env} {C : Addr} (h : body (ss ++ List.replicate (N - ss.length) .no) = .rz e' C) : fnOf N body ss = .rz e' C := by unfold fnOf; rw [h]; rfl
theorem drawB {ar : Ev.Env → M (Ev.Env × List Dv)} {e e1 : Ev.Env} {n : Nat} {X : XP} {Pm : Nat → Ev.Env × Dv → Prop} {mm : Int} (h : ar e = .ret (e1, [.pu, .t (.int mm)])) (h1 : 1 ≤ mm) (h2 : mm ≤ 10 ^ 30) (hn : 1 ≤ n) (k : ∀ r, 0 ≤ r → r < mm → Pm (n - 1) (e1, .t (.int r))) : wp (eDraw ar e) n Pm X := by
  unfold eDraw
  rw [h]
  exact ⟨hn, h1, Int.le_trans h2 (by decide +kernel), k⟩
/-! ### refusals, way by way -/
def plainW : List (Int × Nat × Int) := [(0, 37, 0), (1, 49, 1), (2, 61, 2), (3, 73, 3), (4, 85, 4), (5, 97, 5), (6, 109, 6), (7, 121, 7), (8, 133, 8), (9, 145, 9), (10, 157, 10), (12, 190, 12), (13, 202, 13), (14, 214, 14), (15, 226, 15), (16, 238, 16), (17, 250, 17), (18, 262, 18), (22, 37, 0), (23, 61, 2), (24, 121, 7), (25, 190, 12), (26, 238, 16), (27, 262, 18), (28, 49, 1)]
theorem caught_plain (N : Int) (z : Str) : plainW.map (fun p => F__law_caught [.t (.int p.1), .t (.int N), .t (.str z)]) = plainW.map (fun p => .ret (.t (.exc p.2.1))) := by kernel_rfl
theorem marks_plain : plainW.map (fun p => F__law_marks [.t (.exc p.2.1)]) = plainW.map (fun p => .ret (.fr [.int p.2.2])) := by kernel_rfl
theorem due_plain : plainW.map (fun p => F__law_due [.t (.int p.1)]) = plainW.map (fun p => .ret (.t (.int p.2.2))) := by kernel_rfl
theorem in_plain : plainW.all (fun p => RS.contains (xCls p.2.1)) = true := by decide +kernel
theorem caught21 (N : Int) (z : Str) : F__law_caught [.t (.int 21), .t (.int N), .t (.str z)] = .ret (.t (.exc (xcode 284 1 0))) := by kernel_rfl
theorem log_ok {i : Int} (h0 : 0 ≤ i) (h : i < 10 ^ 29) : i.natAbs.log2 < 1920 := by
  have h1 : i.natAbs < 10 ^ 29 := by omega
  have h2 : (10 : Nat) ^ 29 < 2 ^ 104 := by decide +kernel
  by_cases h3 : i.natAbs = 0
  · rw [h3]; decide
  · have := (Nat.log2_lt h3 (k := 104)).mpr (Nat.lt_trans h1 h2)
    omega
section
variable {N : Int} {z : Str} (h0 : 0 ≤ N) (h : N < 10 ^ 29)
include h0 h
abbrev SE3 (w N : Int) (z : Str) : Ev.Env := [.t (.int w), .t (.int N), .t (.str z)]
theorem raise1_ev {C b : Nat} {w : Int} : sRaise1 C b (eVar 1) (SE3 w N z) = .rz (SE3 w N z) (xcode C b N.toNat) := by
  show (if 0 ≤ N ∧ N.natAbs.log2 < 1920 then M.rz (SE3 w N z) (xcode C b N.toNat) else M.bad) = _
  rw [if_pos ⟨h0, log_ok h0 h⟩]
theorem second11 : F__law_second (SE3 11 N z) = .rz (SE3 11 N z) (xcode 178 0 N.toNat) := by
  unfold F__law_second
  refine fnZ ?_
  show mb__law_second (SE3 11 N z) = _
  unfold mb__law_second
  refine (seqE (e' := SE3 11 N z) (by kernel_rfl)).trans ?_
  exact seqZ ((ifT (e' := SE3 11 N z) (by kernel_rfl)).trans (raise1_ev h0 h))
theorem second19 : F__law_second (SE3 19 N z) = .rz (SE3 19 N z) (xcode 284 1 N.toNat) := by
  unfold F__law_second
  refine fnZ ?_
  show mb__law_second (SE3 19 N z) = _
  unfold mb__law_second
  iterate 9 refine (seqE (e' := SE3 19 N z) (by kernel_rfl)).trans ?_
  exact seqZ ((ifT (e' := SE3 19 N z) (by kernel_rfl)).trans (raise1_ev h0 h))
theorem second20 : F__law_second (SE3 20 N z) = .rz (SE3 20 N z) (xcode 284 1 N.toNat) := by
  unfold F__law_second
  refine fnZ ?_
  show mb__law_second (SE3 20 N z) = _
  unfold mb__law_second
  iterate 10 refine (seqE (e' := SE3 20 N z) (by kernel_rfl)).trans ?_
  exact seqZ ((ifT (e' := SE3 20 N z) (by kernel_rfl)).trans (raise1_ev h0 h))
omit h0 h in
theorem caught_of {w : Int} {c : Nat} {e : Ev.Env} (h1 : F__law_first [.t (.int w)] = .ret (.t .non)) (h2 : F__law_second (SE3 w N z) = .rz e c) (hc : exmL RS (xCls c) = true) : F__law_caught (SE3 w N z) = .ret (.t (.exc c)) := by
  unfold F__law_caught
  refine fnR ?_
  show mb__law_caught [.t (.int w), .t (.int N), .t (.str z), .no, .no] = _
  unfold mb__law_caught
  refine (seqE (e' := [.t (.int w), .t (.int N), .t (.str z), .t .non, .no]) rfl).trans ?_
  have hb : (sSeq (sDrop (evCall F__law_first 1 (aCons (eVar 0) aNil)))
  (sSeq (sDrop (evCall F__law_second 3 (aCons (eVar 0) (aCons (eVar 1) (aCons (eVar 2) aNil)))))
  (sDrop (evCall F__law_third 2 (aCons (eVar 0) (aCons (eVar 2) aNil)))))) [.t (.int w), .t (.int N), .t (.str z), .t .non, .no] = .rz [.t (.int w), .t (.int N), .t (.str z), .t .non, .no] c :=
    (seqE (dropE (callS (e2 := [.t (.int w), .t (.int N), .t (.str z), .t .non, .no]) rfl rfl rfl h1 rfl))).trans (seqZ (dropZ (callZ (e2 := [.t (.int w), .t (.int N), .t (.str z), .t .non, .no]) rfl rfl rfl h2)))
  refine (seqE (e' := [.t (.int w), .t (.int N), .t (.str z), .t (.exc c), .no]) ?_).trans rfl
  unfold sTry
  rw [hb]
  show (if exmL RS (xCls c) = true then M.ret (Out.nx _) else M.bad) = _
  rw [if_pos hc]
  rfl
end
theorem first_big : [11, 19, 20].map (fun w : Int => F__law_first [.t (.int w)]) = [11, 19, 20].map (fun _ => .ret (.t .non)) := by kernel_rfl
/-! ### which class it is of -/
abbrev ME (c : Nat) (s1 : Slot) : Ev.Env := [.t (.exc c), s1, .no]
theorem isE {c C D : Nat} {s1 : Slot} (h : xCls c = C) (hC : RS.contains C = true) (hD : CS.contains D = true) : evO (oIsi (kxL RS CS)) (aCons (eVar 0) (aCons (eV (.ref D)) aNil)) (ME c s1) = .ret (ME c s1, .t (.bl (C == D))) := by
  show (match kxL RS CS (xCls c) (.ref D) with | some b => M.ret (ME c s1, Dv.t (.bl b)) | none => M.bad) = _
  have e0 : kxL RS CS (xCls c) (.ref D) = some (C == D) := by
    unfold kxL
    rw [h, if_pos hC]
    show (if CS.contains D = true then some (C == D) else none) = _
    rw [if_pos hD]
  rw [e0]
theorem is3 {c C D1 D2 D3 : Nat} {s1 : Slot} (h : xCls c = C) (hC : RS.contains C = true) (h1 : CS.contains D1 = true) (h2 : CS.contains D2 = true) (h3 : CS.contains D3 = true) : eLst (aCons (evO (oIsi (kxL RS CS)) (aCons (eVar 0) (aCons (eV (.ref D1)) aNil))) (aCons (evO (oIsi (kxL RS CS)) (aCons (eVar 0) (aCons (eV (.ref D2)) aNil))) (aCons (evO (oIsi (kxL RS CS)) (aCons (eVar 0) (aCons (eV (.ref D3)) aNil))) aNil))) (ME c s1) = .ret (ME c s1, .fr [.bl (C == D1), .bl (C == D2), .bl (C == D3)]) :=
  lstX (argE (isE h hC h1) (argE (isE h hC h2) (argE (isE h hC h3) rfl))) rfl rfl (by show 3 ≤ 100000; decide)
theorem is2 {c C D1 D2 : Nat} {s1 : Slot} (h : xCls c = C) (hC : RS.contains C = true) (h1 : CS.contains D1 = true) (h2 : CS.contains D2 = true) : eLst (aCons (evO (oIsi (kxL RS CS)) (aCons (eVar 0) (aCons (eV (.ref D1)) aNil))) (aCons (evO (oIsi (kxL RS CS)) (aCons (eVar 0) (aCons (eV (.ref D2)) aNil))) aNil)) (ME c s1) = .ret (ME c s1, .fr [.bl (C == D1), .bl (C == D2)]) :=
  lstX (argE (isE h hC h1) (argE (isE h hC h2) rfl)) rfl rfl (by show 2 ≤ 100000; decide)
theorem addL {c : Nat} {xs ys : List Tr} {m : Ev.Env → M (Ev.Env × Dv)} (h : m (ME c (.live xs)) = .ret (ME c (.live xs), .fr ys)) (hl : xs.length + ys.length ≤ 100) : sSet 1 (evO oAdd (aCons (eVar 1) (aCons m aNil))) (ME c (.live xs)) = .ret (.nx (ME c (.live (xs ++ ys)))) := by
  refine setE ((opE (argE rfl (argE h rfl))).trans (?_ : oAdd (ME c (.live xs)) [.sl 1, .fr ys] = .ret (ME c (.live xs), .fr (xs ++ ys)))) rfl
  show (if xs.length + ys.length ≤ 100000 then M.ret (ME c (.live xs), Dv.fr (xs ++ ys)) else M.bad) = _
  rw [if_pos (by omega)]
theorem marks_end (c : Nat) (i : Nat) (hi : i < 20) : (sRet (eLc (iRange1 (aCons (evO oLen (aCons (eVar 1) aNil)) aNil)) (bName 2) (tVal (evO oIx (aCons (eVar 1) (aCons (eVar 2) aNil)))) (eVar 2) [2])) (ME c (.live ((List.range 20).map fun j => Tr.bl (j == i)))) = .ret (.rt (.fr [.int ((i : Nat) : Int)])) := by
  have key : (List.range 20).map (fun i => (sRet (eLc (iRange1 (aCons (evO oLen (aCons (eVar 1) aNil)) aNil)) (bName 2) (tVal (evO oIx (aCons (eVar 1) (aCons (eVar 2) aNil)))) (eVar 2) [2])) (ME c (.live ((List.range 20).map fun j => Tr.bl (j == i))))) = (List.range 20).map (fun i => .ret (.rt (.fr [.int ((i : Nat) : Int)]))) := by kernel_rfl
  exact List.map_inj_left.mp key i (List.mem_range.mpr hi)
theorem marks_any {c C i : Nat} (h : xCls c = C) (hC : RS.contains C = true) (hi : i < 20) (hL : [(C == 37), (C == 49), (C == 61), (C == 73), (C == 85), (C == 97), (C == 109), (C == 121), (C == 133), (C == 145), (C == 157), (C == 178), (C == 190), (C == 202), (C == 214), (C == 226), (C == 238), (C == 250), (C == 262), (C == 284)] = (List.range 20).map fun j => j == i) : F__law_marks [.t (.exc c)] = .ret (.fr [.int ((i : Nat) : Int)]) := by
  unfold F__law_marks
  refine fnR ?_
  show mb__law_marks (ME c .no) = _
  unfold mb__law_marks
  refine (seqE (setE (e' := ME c (.live [.bl (C == 37), .bl (C == 49), .bl (C == 61)])) (is3 h hC (by decide +kernel) (by decide +kernel) (by decide +kernel)) rfl)).trans ?_
  refine (seqE (addL (is3 h hC (by decide +kernel) (by decide +kernel) (by decide +kernel)) (by simp))).trans ?_
  refine (seqE (addL (is3 h hC (by decide +kernel) (by decide +kernel) (by decide +kernel)) (by simp))).trans ?_
  refine (seqE (addL (is3 h hC (by decide +kernel) (by decide +kernel) (by decide +kernel)) (by simp))).trans ?_
  refine (seqE (addL (is3 h hC (by decide +kernel) (by decide +kernel) (by decide +kernel)) (by simp))).trans ?_
  refine (seqE (addL (is3 h hC (by decide +kernel) (by decide +kernel) (by decide +kernel)) (by simp))).trans ?_
  refine (seqE (addL (is2 h hC (by decide +kernel) (by decide +kernel)) (by simp))).trans ?_
  have e0 : ((List.range 20).map fun j => Tr.bl (j == i)) = ([(C == 37), (C == 49), (C == 61), (C == 73), (C == 85), (C == 97), (C == 109), (C == 121), (C == 133), (C == 145), (C == 157), (C == 178), (C == 190), (C == 202), (C == 214), (C == 226), (C == 238), (C == 250), (C == 262), (C == 284)]).map Tr.bl := by
    rw [hL, List.map_map]
    rfl
  have h9 := marks_end c i hi
  rw [e0] at h9
  exact h9
/-! ### the law -/
abbrev HT2 (p : Nat × Int) : Tr := .tup [.exc p.1, .int p.2]
def okH (p : Nat × Int) : Prop := 1000000 ≤ p.1 ∧ xCls p.1 = 284 ∧ xFld p.1 = "row" ∧ xRow p.1 = p.2
theorem okH_of (r : Nat) : okH (xcode 284 1 r, (r : Int)) := by
  obtain ⟨a1, a2, a3, a4⟩ := xcode_at (C := 284) (b := 1) (r := r) (by decide) (by decide)
  exact ⟨a1, a2, xFld_code (by decide) (by decide), a4⟩
abbrev LH (L : List (Nat × Int)) (s3 s4 s5 s6 s7 s8 : Slot) : Ev.Env := [.no, .pu, .live (L.map HT2), s3, s4, s5, s6, s7, s8, .no]
structure Hit (w N : Int) (z : Str) (c : Nat) (idx : Int) : Prop where
  caught : F__law_caught (SE3 w N z) = .ret (.t (.exc c))
  marks : F__law_marks [.t (.exc c)] = .ret (.fr [.int idx])
  due : F__law_due [.t (.int w)] = .ret (.t (.int idx))
  cls : RS.contains (xCls c) = true
theorem hit_plain {p : Int × Nat × Int} (h : p ∈ plainW) (N : Int) (z : Str) : Hit p.1 N z p.2.1 p.2.2 := ⟨List.map_inj_left.mp (caught_plain N z) p h, List.map_inj_left.mp marks_plain p h, List.map_inj_left.mp due_plain p h, List.all_eq_true.mp in_plain p h⟩
theorem rs178 : exmL RS 178 = true := by decide +kernel
theorem rs284 : exmL RS 284 = true := by decide +kernel
theorem marks178 {c : Nat} (h : xCls c = 178) : F__law_marks [.t (.exc c)] = .ret (.fr [.int 11]) := marks_any (i := 11) h rs178 (by decide) (by decide +kernel)
theorem marks284 {c : Nat} (h : xCls c = 284) : F__law_marks [.t (.exc c)] = .ret (.fr [.int 19]) := marks_any (i := 19) h rs284 (by decide) (by decide +kernel)
theorem first11 : F__law_first [.t (.int 11)] = .ret (.t .non) := by kernel_rfl
theorem first19 : F__law_first [.t (.int 19)] = .ret (.t .non) := by kernel_rfl
theorem first20 : F__law_first [.t (.int 20)] = .ret (.t .non) := by kernel_rfl
theorem due11 : F__law_due [.t (.int 11)] = .ret (.t (.int 11)) := by kernel_rfl
theorem due19 : F__law_due [.t (.int 19)] = .ret (.t (.int 19)) := by kernel_rfl
theorem due20 : F__law_due [.t (.int 20)] = .ret (.t (.int 19)) := by kernel_rfl
theorem due21 : F__law_due [.t (.int 21)] = .ret (.t (.int 19)) := by kernel_rfl
theorem hit_some {w N : Int} {z : Str} (w0 : 0 ≤ w) (w1 : w < 29) (h0 : 0 ≤ N) (h : N < 10 ^ 29) : (∃ p ∈ plainW, w = p.1 ∧ Hit w N z p.2.1 p.2.2) ∨ (w = 11 ∧ ∃ c idx, Hit w N z c idx) ∨ ((w = 19 ∨ w = 20) ∧ ∃ c idx, okH (c, N) ∧ Hit w N z c idx) ∨ (w = 21 ∧ ∃ c idx, okH (c, 0) ∧ Hit w N z c idx) := by
  have hN : ((N.toNat : Nat) : Int) = N := Int.toNat_of_nonneg h0
  by_cases h11 : w = 11
  · subst h11
    have hx := (xcode_at (C := 178) (b := 0) (r := N.toNat) (by decide) (by decide)).2.1
    exact .inr (.inl ⟨rfl, xcode 178 0 N.toNat, 11, caught_of first11 (second11 h0 h) (by rw [hx]; exact rs178), marks178 hx, due11, by rw [hx]; exact rs178⟩)
  have hx := (xcode_at (C := 284) (b := 1) (r := N.toNat) (by decide) (by decide)).2.1
  have hk := okH_of N.toNat
  rw [hN] at hk
  by_cases h19 : w = 19
  · subst h19
    exact .inr (.inr (.inl ⟨.inl rfl, xcode 284 1 N.toNat, 19, hk, caught_of first19 (second19 h0 h) (by rw [hx]; exact rs284), marks284 hx, due19, by rw [hx]; exact rs284⟩))
  by_cases h20 : w = 20
  · subst h20
    exact .inr (.inr (.inl ⟨.inr rfl, xcode 284 1 N.toNat, 19, hk, caught_of first20 (second20 h0 h) (by rw [hx]; exact rs284), marks284 hx, due20, by rw [hx]; exact rs284⟩))
  by_cases h21 : w = 21
  · subst h21
    have hx := (xcode_at (C := 284) (b := 1) (r := 0) (by decide) (by decide)).2.1
    exact .inr (.inr (.inr ⟨rfl, xcode 284 1 0, 19, okH_of 0, caught21 N z, marks284 hx, due21, by rw [hx]; exact rs284⟩))
  left
  have key : ∃ p ∈ plainW, w = p.1 := by
    have : w = 0 ∨ w = 1 ∨ w = 2 ∨ w = 3 ∨ w = 4 ∨ w = 5 ∨ w = 6 ∨ w = 7 ∨ w = 8 ∨ w = 9 ∨ w = 10 ∨ w = 12 ∨ w = 13 ∨ w = 14 ∨ w = 15 ∨ w = 16 ∨ w = 17 ∨ w = 18 ∨ w = 22 ∨ w = 23 ∨ w = 24 ∨ w = 25 ∨ w = 26 ∨ w = 27 ∨ w = 28 := by omega
    have hm : w ∈ plainW.map (·.1) := by
      show w ∈ [(0 : Int), 1, 2, 3, 4, 5, 6, 7, 8, 9, 10, 12, 13, 14, 15, 16, 17, 18, 22, 23, 24, 25, 26, 27, 28]
      simp only [List.mem_cons, List.not_mem_nil, or_false]
      exact this
    obtain ⟨p, mp, e⟩ := List.mem_map.mp hm
    exact ⟨p, mp, e.symm⟩
  obtain ⟨p, mp, rfl⟩ := key
  exact ⟨p, mp, rfl, hit_plain mp N z⟩
def C1 : Ev.Env → M (Ev.Env × Bool) := (tOrM (tVal (evO (o2 (gIs false)) (aCons (eVar 7) (aCons (eT .non) aNil)))) (tOrM (tVal (evO (o2 (gEq true)) (aCons (evCall F__law_marks 1 (aCons (eVar 7) aNil)) (aCons (eLst (aCons (evCall F__law_due 1 (aCons (eVar 4) aNil)) aNil)) aNil)))) (tNotM (tVal (evO (oIsi (kxL RS CS)) (aCons (eVar 7) (aCons (eV (.ty "ValueError")) aNil)))))))
theorem gEq_one (i : Int) : gEq true (.lst [.int i]) (.lst [.int i]) = some (.bl false) := by
  unfold gEq
  have h2 : PyData.eqv (toD (.lst [.int i])) (toD (.lst [.int i])) = true := by
    show PyData.eqv (.list [.int i]) (.list [.int i]) = true
    unfold PyData.eqv
    simp [PyData.eqvAll, eqv_int]
  rw [h2]
  rfl
theorem c1_ev {L : List (Nat × Int)} {s3 s8 : Slot} {w N idx : Int} {z : Str} {c : Nat} (h : Hit w N z c idx) : C1 (LH L s3 (.t (.int w)) (.t (.int N)) (.t (.str z)) (.t (.exc c)) s8) = .ret (LH L s3 (.t (.int w)) (.t (.int N)) (.t (.str z)) (.t (.exc c)) s8, false) := by
  unfold C1
  have hd : eLst (aCons (evCall F__law_due 1 (aCons (eVar 4) aNil)) aNil) (LH L s3 (.t (.int w)) (.t (.int N)) (.t (.str z)) (.t (.exc c)) s8) = .ret (LH L s3 (.t (.int w)) (.t (.int N)) (.t (.str z)) (.t (.exc c)) s8, .fr [.int idx]) :=
    lstX (argE (callS (e2 := LH L s3 (.t (.int w)) (.t (.int N)) (.t (.str z)) (.t (.exc c)) s8) rfl rfl rfl h.due rfl) rfl) rfl rfl (by show 1 ≤ 100000; decide)
  have h2 : tVal (evO (o2 (gEq true)) (aCons (evCall F__law_marks 1 (aCons (eVar 7) aNil)) (aCons (eLst (aCons (evCall F__law_due 1 (aCons (eVar 4) aNil)) aNil)) aNil))) (LH L s3 (.t (.int w)) (.t (.int N)) (.t (.str z)) (.t (.exc c)) s8) = .ret (LH L s3 (.t (.int w)) (.t (.int N)) (.t (.str z)) (.t (.exc c)) s8, false) :=
    valE ((opE (ds := [.fr [.int idx], .fr [.int idx]]) (argE (callF (e2 := LH L s3 (.t (.int w)) (.t (.int N)) (.t (.str z)) (.t (.exc c)) s8) rfl rfl rfl h.marks) (argE hd rfl))).trans (o2E (x := .lst [.int idx]) (y := .lst [.int idx]) rfl rfl (gEq_one idx)))
  have h3 : evO (oIsi (kxL RS CS)) (aCons (eVar 7) (aCons (eV (.ty "ValueError")) aNil)) (LH L s3 (.t (.int w)) (.t (.int N)) (.t (.str z)) (.t (.exc c)) s8) = .ret (LH L s3 (.t (.int w)) (.t (.int N)) (.t (.str z)) (.t (.exc c)) s8, .t (.bl true)) := by
    show (match kxL RS CS (xCls c) (.ty "ValueError") with | some b => M.ret (LH L s3 (.t (.int w)) (.t (.int N)) (.t (.str z)) (.t (.exc c)) s8, Dv.t (.bl b)) | none => M.bad) = _
    have e0 : kxL RS CS (xCls c) (.ty "ValueError") = some true := by
      unfold kxL
      rw [if_pos h.cls]
      rfl
    rw [e0]
  exact (orF (valE rfl)).trans ((orF h2).trans (notE (c := true) (valE h3)))
def IN3 : Ev.Env → M (Ev.Env × Bool) := (tVal (evO (o2 (gIn false)) (aCons (eVar 4) (aCons (eLst (aCons (eT (.int 19)) (aCons (eT (.int 20)) (aCons (eT (.int 21)) aNil)))) aNil))))
theorem in3_plain (L : List (Nat × Int)) (s3 s5 s6 s7 s8 : Slot) : plainW.map (fun p => IN3 (LH L s3 (.t (.int p.1)) s5 s6 s7 s8)) = plainW.map (fun p => .ret (LH L s3 (.t (.int p.1)) s5 s6 s7 s8, false)) := by kernel_rfl
theorem in3_11 (L : List (Nat × Int)) (s3 s5 s6 s7 s8 : Slot) : IN3 (LH L s3 (.t (.int 11)) s5 s6 s7 s8) = .ret (LH L s3 (.t (.int 11)) s5 s6 s7 s8, false) := by kernel_rfl
theorem in3_yes (L : List (Nat × Int)) (s3 s5 s6 s7 s8 : Slot) : [19, 20, 21].map (fun w : Int => IN3 (LH L s3 (.t (.int w)) s5 s6 s7 s8)) = [19, 20, 21].map (fun w => .ret (LH L s3 (.t (.int w)) s5 s6 s7 s8, true)) := by kernel_rfl
def PICK : Ev.Env → M (Ev.Env × Dv) := (eTup (aCons (eVar 7) (aCons (ePick (aCons (eVar 5) (aCons (eT (.int 0)) aNil)) (evO (o1 gInt) (aCons (evO (o2 (gEq false)) (aCons (eVar 4) (aCons (eT (.int 21)) aNil))) aNil))) aNil)))
theorem pick_ev (L : List (Nat × Int)) (s3 s6 s8 : Slot) (N : Int) (c : Nat) : [19, 20, 21].map (fun w : Int => PICK (LH L s3 (.t (.int w)) (.t (.int N)) s6 (.t (.exc c)) s8)) = [19, 20, 21].map (fun w => .ret (LH L s3 (.t (.int w)) (.t (.int N)) s6 (.t (.exc c)) s8, .t (HT2 (c, if w = 21 then 0 else N)))) := by kernel_rfl
theorem app_ev {L : List (Nat × Int)} {s3 s4 s5 s6 s7 s8 : Slot} {m : Ev.Env → M (Ev.Env × Dv)} {p : Nat × Int} (hl : L.length ≤ 100) (h : m (LH L s3 s4 s5 s6 s7 s8) = .ret (LH L s3 s4 s5 s6 s7 s8, .t (HT2 p))) : sDrop (eLM gApp 2 (aCons m aNil)) (LH L s3 s4 s5 s6 s7 s8) = .ret (.nx (LH (L ++ [p]) s3 s4 s5 s6 s7 s8)) := by
  have hg : gApp (L.map HT2) [HT2 p] = some ((L ++ [p]).map HT2, .non) := by
    show (if (L.map HT2).length < 100000 then some (L.map HT2 ++ [HT2 p], Tr.non) else none) = _
    rw [List.length_map, if_pos (by omega), List.map_append]
    rfl
  refine dropE (d := .t .non) (e1 := LH (L ++ [p]) s3 s4 s5 s6 s7 s8) ?_
  show ((aCons m aNil (LH L s3 s4 s5 s6 s7 s8)).bind _) = _
  rw [argE h rfl]
  show (match gApp (L.map HT2) [HT2 p] with | some (ts', z) => M.ret ((LH L s3 s4 s5 s6 s7 s8).set 2 (.live ts'), Dv.t z) | none => M.bad) = _
  rw [hg]
  rfl
theorem mk1_ev {C b : Nat} {N : Int} {E : Ev.Env} (h0 : 0 ≤ N) (h : N < 10 ^ 29) (hE : eVar 5 E = .ret (E, .t (.int N))) : eMk1 C b (eVar 5) E = .ret (E, .t (.exc (xcode C b N.toNat))) := by
  unfold eMk1
  rw [hE]
  show (if 0 ≤ N ∧ N.natAbs.log2 < 1920 then M.ret (E, Dv.t (.exc (xcode C b N.toNat))) else M.bad) = _
  rw [if_pos ⟨h0, log_ok h0 h⟩]
theorem xf_ev {C b r : Nat} {n : Str} {m : Ev.Env → M (Ev.Env × Dv)} {E : Ev.Env} (hC : C < 1000000) (hb : b < 2) (hn : fldB b = n) (hm : m E = .ret (E, .t (.exc (xcode C b r)))) : eXf C n m E = .ret (E, .t (.int (r : Int))) := by
  obtain ⟨a1, a2, a3, a4⟩ := xcode_at (r := r) hC hb
  unfold eXf
  rw [hm]
  show (if 1000000 ≤ xcode C b r ∧ xCls (xcode C b r) = C ∧ xFld (xcode C b r) = n then M.ret (E, Dv.t (.int (xRow (xcode C b r)))) else M.bad) = _
  rw [if_pos ⟨a1, a2, by rw [xFld_code hC hb, hn]⟩, a4]
theorem neF {m1 m2 : Ev.Env → M (Ev.Env × Dv)} {E : Ev.Env} {i : Int} (h1 : m1 E = .ret (E, .t (.int i))) (h2 : m2 E = .ret (E, .t (.int i))) : tVal (evO (o2 (gEq true)) (aCons m1 (aCons m2 aNil))) E = .ret (E, false) := by
  refine valE ((opE (argE h1 (argE h2 rfl))).trans ((o2E rfl rfl (gEqT_i i i)).trans ?_))
  rw [decide_eq_true rfl]
  rfl
def C2 : Ev.Env → M (Ev.Env × Bool) := (tOrM (tVal (evO (o2 (gEq true)) (aCons (eXf 178 "at" (eVar 8)) (aCons (eVar 5) aNil)))) (tOrM (tVal (evO (o2 (gEq true)) (aCons (eXf 284 "row" (eMk0 (xcode 284 1 0))) (aCons (eT (.int 0)) aNil)))) (tVal (evO (o2 (gEq true)) (aCons (eXf 284 "row" (eMk1 284 1 (eVar 5))) (aCons (eVar 5) aNil))))))
theorem c2_ev {L : List (Nat × Int)} {s3 s4 s6 s7 : Slot} {N : Int} (h0 : 0 ≤ N) (h : N < 10 ^ 29) : C2 (LH L s3 s4 (.t (.int N)) s6 s7 (.t (.exc (xcode 178 0 N.toNat)))) = .ret (LH L s3 s4 (.t (.int N)) s6 s7 (.t (.exc (xcode 178 0 N.toNat))), false) := by
  have hN : ((N.toNat : Nat) : Int) = N := Int.toNat_of_nonneg h0
  unfold C2
  have a := xf_ev (C := 178) (b := 0) (r := N.toNat) (n := "at") (m := eVar 8) (E := LH L s3 s4 (.t (.int N)) s6 s7 (.t (.exc (xcode 178 0 N.toNat)))) (by decide) (by decide) rfl rfl
  have b := xf_ev (C := 284) (b := 1) (r := 0) (n := "row") (m := eMk0 (xcode 284 1 0)) (E := LH L s3 s4 (.t (.int N)) s6 s7 (.t (.exc (xcode 178 0 N.toNat)))) (by decide) (by decide) rfl rfl
  have c := xf_ev (C := 284) (b := 1) (r := N.toNat) (n := "row") (m := eMk1 284 1 (eVar 5)) (E := LH L s3 s4 (.t (.int N)) s6 s7 (.t (.exc (xcode 178 0 N.toNat)))) (by decide) (by decide) rfl (mk1_ev h0 h rfl)
  rw [hN] at a c
  exact (orF (neF a rfl)).trans ((orF (neF b rfl)).trans (neF c rfl))
def NL (s : Slot) : Prop := (∃ x, s = .t x) ∨ s = .no
theorem end_ev {L : List (Nat × Int)} (hL : ∀ p ∈ L, okH p) (hl : L.length ≤ 100) {s7 : Slot} (h7 : NL s7) (s3 s4 s5 s6 s8 : Slot) : sRet (evO (o2 (gEq false)) (aCons (eLc (iSeq (eVar 2)) (bTup 2 (bCons (bName 7) (bCons (bName 9) bNil))) (tVal (evO (o2 (gEq true)) (aCons (eXf 284 "row" (eVar 7)) (aCons (eVar 9) aNil)))) (eVar 7) [7, 9]) (aCons (eLst aNil) aNil))) (LH L s3 s4 s5 s6 s7 s8) = .ret (.rt (.t (.bl true))) := by
  have hi : iSeq (eVar 2) (LH L s3 s4 s5 s6 s7 s8) = .ret ([.no, .pu, .t (.lst (L.map HT2)), s3, s4, s5, s6, s7, s8, .no], (L.map HT2).map .one) := iseqE rfl rfl
  have hnl : noLive [.no, .pu, .t (.lst (L.map HT2)), s3, s4, s5, s6, s7, s8, .no] [7, 9] = true := by
    rcases h7 with ⟨x, rfl⟩ | rfl <;> rfl
  have hc := lc_pure (bd := bTup 2 (bCons (bName 7) (bCons (bName 9) bNil))) (t := tVal (evO (o2 (gEq true)) (aCons (eXf 284 "row" (eVar 7)) (aCons (eVar 9) aNil)))) (el := eVar 7) (vs := [7, 9]) (e := [.no, .pu, .t (.lst (L.map HT2)), s3, s4, s5, s6, s7, s8, .no]) (fun _ => false) (fun _ => .non) hnl (its := (L.map HT2).map .one) (acc := []) (by simp; omega) (fun it hit => by
    obtain ⟨y, hy, rfl⟩ := List.mem_map.mp hit
    obtain ⟨p, hp, rfl⟩ := List.mem_map.mp hy
    obtain ⟨o1, o2', o3, o4⟩ := hL p hp
    refine ⟨[.no, .pu, .t (.lst (L.map HT2)), s3, s4, s5, s6, .t (.exc p.1), s8, .t (.int p.2)], rfl, neF (i := p.2) ?_ rfl, ?_, fun z => by cases z⟩
    · show (if 1000000 ≤ p.1 ∧ xCls p.1 = 284 ∧ xFld p.1 = "row" then M.ret (_, Dv.t (.int (xRow p.1))) else M.bad) = _
      rw [if_pos ⟨o1, o2', o3⟩, o4]
    · rcases h7 with ⟨x, rfl⟩ | rfl <;> rfl)
  have e1 : (([] : List Tr) ++ List.map (fun _ => Tr.non) (List.filter (fun _ => false) ((L.map HT2).map Item.one))) = [] := by
    rw [List.filter_eq_nil_iff.mpr (fun _ _ => by simp)]
    rfl
  rw [e1] at hc
  exact retE (e1 := [.no, .pu, .t (.lst (L.map HT2)), s3, s4, s5, s6, s7, s8, .no]) ((opE (argE ((lcE hi).trans hc) (argE (d := .fr []) rfl rfl))).trans ((o2E (x := .lst []) (y := .lst []) rfl rfl (by rfl)).trans rfl))
theorem mul_no {E : Ev.Env} {r : Int} (r0 : 0 ≤ r) (r1 : r < 4) : ∃ z, oMulV E [.t (.str "no"), .t (.int r)] = .ret (E, .t (.str z)) := by
  have : r = 0 ∨ r = 1 ∨ r = 2 ∨ r = 3 := by omega
  rcases this with rfl | rfl | rfl | rfl
  · exact ⟨"", by kernel_rfl⟩
  · exact ⟨"no", by kernel_rfl⟩
  · exact ⟨"nono", by kernel_rfl⟩
  · exact ⟨"nonono", by kernel_rfl⟩
theorem held_ev {L : List (Nat × Int)} (hL : ∀ p ∈ L, okH p) (hl : L.length ≤ 90) {w N : Int} {z : Str} (w0 : 0 ≤ w) (w1 : w < 29) (h0 : 0 ≤ N) (h : N < 10 ^ 29) (s3 s8 : Slot) : ∃ c idx L2, Hit w N z c idx ∧ (∀ p ∈ L2, okH p) ∧ L2.length ≤ L.length + 1 ∧ sIf IN3 (sDrop (eLM gApp 2 (aCons PICK aNil))) sNext (LH L s3 (.t (.int w)) (.t (.int N)) (.t (.str z)) (.t (.exc c)) s8) = .ret (.nx (LH L2 s3 (.t (.int w)) (.t (.int N)) (.t (.str z)) (.t (.exc c)) s8)) := by
  rcases hit_some (z := z) w0 w1 h0 h with ⟨p, mp, rfl, hh⟩ | ⟨rfl, c, idx, hh⟩ | ⟨hw, c, idx, hk, hh⟩ | ⟨rfl, c, idx, hk, hh⟩
  · exact ⟨_, _, L, hh, hL, by omega, (ifF (List.map_inj_left.mp (in3_plain L s3 (.t (.int N)) (.t (.str z)) (.t (.exc p.2.1)) s8) p mp)).trans rfl⟩
  · exact ⟨c, idx, L, hh, hL, by omega, (ifF (in3_11 L s3 (.t (.int N)) (.t (.str z)) (.t (.exc c)) s8)).trans rfl⟩
  · have hm : w ∈ [(19 : Int), 20, 21] := by
      rcases hw with rfl | rfl <;> decide
    have hne : w ≠ 21 := by
      rcases hw with rfl | rfl <;> decide
    have hp := List.map_inj_left.mp (pick_ev L s3 (.t (.str z)) s8 N c) w hm
    rw [if_neg hne] at hp
    refine ⟨c, idx, L ++ [(c, N)], hh, fun p m => ?_, by rw [List.length_append]; exact Nat.le_refl _, (ifT (List.map_inj_left.mp (in3_yes L s3 (.t (.int N)) (.t (.str z)) (.t (.exc c)) s8) w hm)).trans (app_ev (by omega) hp)⟩
    rcases List.mem_append.mp m with m | m
    · exact hL p m
    · rw [List.mem_singleton.mp m]; exact hk
  · have hm : (21 : Int) ∈ [(19 : Int), 20, 21] := by decide
    have hp := List.map_inj_left.mp (pick_ev L s3 (.t (.str z)) s8 N c) 21 hm
    rw [if_pos rfl] at hp
    refine ⟨c, idx, L ++ [(c, 0)], hh, fun p m => ?_, by rw [List.length_append]; exact Nat.le_refl _, (ifT (List.map_inj_left.mp (in3_yes L s3 (.t (.int N)) (.t (.str z)) (.t (.exc c)) s8) 21 hm)).trans (app_ev (by omega) hp)⟩
    rcases List.mem_append.mp m with m | m
    · exact hL p m
    · rw [List.mem_singleton.mp m]; exact hk
theorem law_holds : wp (mb_law (.no :: .pu :: List.replicate 8 .no)) (2 ^ 60) (fun _ o => o = .rt (.t (.bl true))) (fun _ _ _ => False) := by
  refine W.out ?_
  unfold mb_law
  refine W.seq (W.eq (setE (e' := LH [] .no .no .no .no .no .no) (d := .fr []) rfl rfl) (W.ret ?_))
  refine W.seq (W.forR (m := 7) (by decide) rfl (fun k n e => 10 * (7 - k) ≤ n ∧ ∃ L s3 s4 s5 s6 s7 s8, L.length ≤ k ∧ (∀ p ∈ L, okH p) ∧ NL s7 ∧ e = LH L s3 s4 s5 s6 s7 s8) ⟨by decide, [], _, _, _, _, _, _, by decide, (fun _ h => nomatch h), .inr rfl, rfl⟩ ?_ ?_)
  · rintro k n e hk ⟨hn, L, s3, s4, s5, s6, s7, s8, hl, hL, h7, rfl⟩
    have hn2 : 10 ≤ n := by omega
    refine W.seq (W.set (Pm := fun n' r => n' = n - 1 ∧ ∃ w : Int, 0 ≤ w ∧ w < 29 ∧ r = (LH L (.t (.int (k : Nat))) s4 s5 s6 s7 s8, .t (.int w))) (W.draw (mm := 29) rfl (by decide) (by decide) (by omega) fun r r0 r1 => ⟨rfl, r, r0, r1, rfl⟩) ?_)
    rintro _ _ ⟨rfl, w, w0, w1, rfl⟩
    refine ⟨LH L (.t (.int (k : Nat))) (.t (.int w)) s5 s6 s7 s8, rfl, ?_⟩
    have hd : aCons (eVar 1) (aCons (evO oPow (aCons (eT (.int 10)) (aCons (eT (.int 29)) aNil))) aNil) (LH L (.t (.int (k : Nat))) (.t (.int w)) s5 s6 s7 s8) = .ret (LH L (.t (.int (k : Nat))) (.t (.int w)) s5 s6 s7 s8, [.pu, .t (.int (10 ^ 29))]) := by
      refine argE rfl (argE ?_ rfl)
      kernel_rfl
    have hbig : (10 : Int) ^ 29 ≤ 10 ^ 30 := by decide +kernel
    have hone : (1 : Int) ≤ 10 ^ 29 := by decide +kernel
    refine W.seq (W.set (Pm := fun n' r => n' = n - 2 ∧ ∃ N : Int, 0 ≤ N ∧ N < 10 ^ 29 ∧ r = (LH L (.t (.int (k : Nat))) (.t (.int w)) s5 s6 s7 s8, .t (.int N))) (W.mk (drawB hd hone hbig (by omega) fun r r0 r1 => ⟨by omega, r, r0, r1, rfl⟩)) ?_)
    rintro _ _ ⟨rfl, N, N0, N1, rfl⟩
    refine ⟨LH L (.t (.int (k : Nat))) (.t (.int w)) (.t (.int N)) s6 s7 s8, rfl, ?_⟩
    refine W.seq (W.set (Pm := fun n' r => n' = n - 3 ∧ ∃ z : Str, r = (LH L (.t (.int (k : Nat))) (.t (.int w)) (.t (.int N)) s6 s7 s8, .t (.str z))) (W.op (W.arg (W.eq (m2 := .ret (LH L (.t (.int (k : Nat))) (.t (.int w)) (.t (.int N)) s6 s7 s8, .t (.str "no"))) rfl (W.ret (W.arg (W.draw (mm := 4) rfl (by decide) (by decide) (by omega) fun r r0 r1 => W.ret ?_)))))) ?_)
    · obtain ⟨z, hz⟩ := mul_no (E := LH L (.t (.int (k : Nat))) (.t (.int w)) (.t (.int N)) s6 s7 s8) r0 r1
      exact W.eq hz (W.ret ⟨by omega, z, rfl⟩)
    rintro _ _ ⟨rfl, z, rfl⟩
    refine ⟨LH L (.t (.int (k : Nat))) (.t (.int w)) (.t (.int N)) (.t (.str z)) s7 s8, rfl, ?_⟩
    obtain ⟨c, idx, L2, hh, hL2, hl2, hif⟩ := held_ev (z := z) hL (by omega) w0 w1 N0 N1 (.t (.int (k : Nat))) s8
    refine W.seq (W.eq (setE (e' := LH L (.t (.int (k : Nat))) (.t (.int w)) (.t (.int N)) (.t (.str z)) (.t (.exc c)) s8) (callX (e' := LH L (.t (.int (k : Nat))) (.t (.int w)) (.t (.int N)) (.t (.str z)) s7 s8) (d := .t (.exc c)) (argE rfl (argE rfl (argE rfl rfl))) rfl rfl hh.caught finS) rfl) (W.ret ?_))
    refine W.seq (W.eq ((ifF (c1_ev hh)).trans rfl) (W.ret ?_))
    refine W.seq (W.eq hif (W.ret ?_))
    refine W.seq (W.eq (setE (e' := LH L2 (.t (.int (k : Nat))) (.t (.int w)) (.t (.int N)) (.t (.str z)) (.t (.exc c)) (.t (.exc (xcode 178 0 N.toNat)))) (mk1_ev N0 N1 rfl) rfl) (W.ret ?_))
    exact W.eq ((ifF (c2_ev N0 N1)).trans rfl) (W.ret ⟨by omega, L2, _, _, _, _, _, _, by omega, hL2, .inl ⟨_, rfl⟩, rfl⟩)
  · rintro n e ⟨_, L, s3, s4, s5, s6, s7, s8, hl, hL, h7, rfl⟩
    exact W.eq (end_ev hL (by omega) h7 _ _ _ _ _) (W.ret rfl)
end My

namespace My
open PySem L2 Evl Dl Ev
def topS (i : Nat) : Stmt := PySem.Challenge.pw_thirtycubes_k27_refusals_made_by_hand.main.body.getD i (.Pass ⟨0, 0, 0, 0⟩)
abbrev s__law_purse : Stmt := topS 23
abbrev N__law_purse : List Str := ["_law_script", "_law_cells", "_law_k"]
theorem sc__law_purse : FnScope N__law_purse ["_law_script"] (defScope s__law_purse) := ⟨rfl, rfl, rfl, by decide +kernel, rfl, by decide +kernel, by decide +kernel⟩
abbrev s__law_draw : Stmt := topS 24
abbrev N__law_draw : List Str := ["_law_purse_here", "_law_out_of", "_law_cells", "_law_turn", "_law_at", "_law_cell", "_law_number", "_law_other"]
theorem sc__law_draw : FnScope N__law_draw ["_law_purse_here", "_law_out_of"] (defScope s__law_draw) := ⟨rfl, rfl, rfl, by decide +kernel, rfl, by decide +kernel, by decide +kernel⟩
abbrev s__law_marks : Stmt := topS 25
abbrev N__law_marks : List Str := ["_law_caught_here", "_law_some", "_law_k"]
theorem sc__law_marks : FnScope N__law_marks ["_law_caught_here"] (defScope s__law_marks) := ⟨rfl, rfl, rfl, by decide +kernel, rfl, by decide +kernel, by decide +kernel⟩
abbrev s__law_first : Stmt := topS 26
abbrev N__law_first : List Str := ["_law_which"]
theorem sc__law_first : FnScope N__law_first ["_law_which"] (defScope s__law_first) := ⟨rfl, rfl, rfl, by decide +kernel, rfl, by decide +kernel, by decide +kernel⟩
abbrev s__law_second : Stmt := topS 27
abbrev N__law_second : List Str := ["_law_which", "_law_number", "_law_line"]
theorem sc__law_second : FnScope N__law_second ["_law_which", "_law_number", "_law_line"] (defScope s__law_second) := ⟨rfl, rfl, rfl, by decide +kernel, rfl, by decide +kernel, by decide +kernel⟩
abbrev s__law_third : Stmt := topS 28
abbrev N__law_third : List Str := ["_law_which", "_law_line"]
theorem sc__law_third : FnScope N__law_third ["_law_which", "_law_line"] (defScope s__law_third) := ⟨rfl, rfl, rfl, by decide +kernel, rfl, by decide +kernel, by decide +kernel⟩
abbrev s__law_caught : Stmt := topS 29
abbrev N__law_caught : List Str := ["_law_which", "_law_number", "_law_line", "_law_caught_here", "e"]
theorem sc__law_caught : FnScope N__law_caught ["_law_which", "_law_number", "_law_line"] (defScope s__law_caught) := ⟨rfl, rfl, rfl, by decide +kernel, rfl, by decide +kernel, by decide +kernel⟩
abbrev s__law_due : Stmt := topS 30
abbrev N__law_due : List Str := ["_law_which"]
theorem sc__law_due : FnScope N__law_due ["_law_which"] (defScope s__law_due) := ⟨rfl, rfl, rfl, by decide +kernel, rfl, by decide +kernel, by decide +kernel⟩
abbrev s_law : Stmt := topS 31
abbrev N_law : List Str := ["_law_script", "_law_purse_here", "_law_held", "_law_time", "_law_which", "_law_number", "_law_line", "_law_caught_here", "_law_stock", "_law_due_here"]
theorem sc_law : FnScope N_law ["_law_script"] (defScope s_law) := ⟨rfl, rfl, rfl, by decide +kernel, rfl, by decide +kernel, by decide +kernel⟩
abbrev s_NoStock_init : Stmt := (clsB (topS 13)).getD 0 (.Pass ⟨0, 0, 0, 0⟩)
abbrev N_NoStock_init : List Str := ["self", "at", "__class__"]
theorem sc_NoStock_init : NdefX.NScope N_NoStock_init ["self", "at"] ["__class__"] (defScope s_NoStock_init) := NdefX.nscope_by (by decide +kernel)
abbrev s_NoText_init : Stmt := (clsB (topS 21)).getD 0 (.Pass ⟨0, 0, 0, 0⟩)
abbrev N_NoText_init : List Str := ["self", "row", "__class__"]
theorem sc_NoText_init : NdefX.NScope N_NoText_init ["self", "row"] ["__class__"] (defScope s_NoText_init) := NdefX.nscope_by (by decide +kernel)
section
variable {P : Program} {w : World} {K : PySem.W.Frag} {mg : Str → Option Value} {base : Heap}
theorem hu5_of {A : Around} {k : Nat} (hr : Room k A) : A.units + 65 < cLine := by have := hr.un; omega
def spLaw (K : PySem.W.Frag) : Sp := fun vs H Q _ => ∃ (a : Addr) (ns : List Int), vs = [.ref a] ∧ SqL K H a (ns.map V.int) ∧ TF H ∧ ns.length ≤ 63 ∧ ∀ H', Q (.bl true) H'
theorem ok_NoStock_init {D f cc cda : Addr} {fd : FuncData} (F : FunS K s_NoStock_init "__init__" "NoStock.__init__" f cc D cda fd) (T : OexC K D) (SO : SupOk P K mg s_NoStock_init D cda) (hno : PySem.W.findIn K (.ref D) "at" = some none) : FnOk P w K mg base (L2.CX P w) 1 f fd ["self", "at"] (spF D "at") := by
  refine FunS.ok (N := N_NoStock_init) F sc_NoStock_init spF_len (fun A out s H vs Q E hr h s1 I => ?_)
  obtain ⟨a, r, rfl, ha, hl, hq⟩ := h
  have few := num_few hl
  refine PySem.ks_wpAt_execs_cons (super_ex F T SO rfl I rfl ha (R := fun H1 => H1 = H) (pe_joined (PJ.cons pe_str (PJ.cons (pe_fmt (pv 1)) PJ.nil))) ?_ (fun s2 H1 I1 ha1 e1 => ?_))
  · have z0 : 200000 ≤ sizeLine := by rw [sizeLine_eq]; decide
    have e0 : (Str.empty).length = 0 := rfl
    have z1 : ("no stock: place " : Str).length ≤ 1000 := by decide +kernel
    have h2 : (Str.ofString (toString r)).length ≤ 2000 := few
    refine ⟨_, rfl, ?_, ?_⟩
    · rw [strLen_append, e0]
      exact Nat.le_trans (Nat.add_le_add_left z1 _) (by omega)
    · refine ⟨.int r, rfl, .inr ⟨r, rfl, hl, _, rfl, ?_, rfl, ha, rfl⟩⟩
      rw [strLen_append, strLen_append, e0]
      exact Nat.le_trans (Nat.add_le_add (Nat.add_le_add_left z1 _) h2) (by omega)
  · subst e1
    refine PySem.wpAt_of_wpAny (wpAny_mono ((pss_one (ps_ost (pv 0) (pv 1))).run [] s2 _ H1 { nx := fun _ H' => Q .non H', rt := Q } I1 ?_) (fun fl s' hs => ?_) fun _ _ z => z)
    · exact ⟨.int r, rfl, .ref a, rfl, a, D, rfl, T, hno, .inl ⟨ha1, fun dx h1 h2 => hq dx h1 h2⟩⟩
    · match fl, hs with
      | .ret u, hs => exact hs
      | .next, hs => exact hs
      | .brk, ⟨_, _, _, q⟩ => exact q.elim
      | .cont, ⟨_, _, _, q⟩ => exact q.elim
theorem ok_NoText_init {D f cc cda : Addr} {fd : FuncData} (F : FunS K s_NoText_init "__init__" "NoText.__init__" f cc D cda fd) (T : OexC K D) (SO : SupOk P K mg s_NoText_init D cda) (hno : PySem.W.findIn K (.ref D) "row" = some none) : FnOk P w K mg base (L2.CX P w) 1 f fd ["self", "row"] (spF D "row") := by
  refine FunS.ok (N := N_NoText_init) F sc_NoText_init spF_len (fun A out s H vs Q E hr h s1 I => ?_)
  obtain ⟨a, r, rfl, ha, hl, hq⟩ := h
  have few := num_few hl
  refine PySem.ks_wpAt_execs_cons (super_ex F T SO rfl I rfl ha (R := fun H1 => H1 = H) (pe_joined (PJ.cons pe_str (PJ.cons (pe_fmt (pv 1)) PJ.nil))) ?_ (fun s2 H1 I1 ha1 e1 => ?_))
  · have z0 : 200000 ≤ sizeLine := by rw [sizeLine_eq]; decide
    have e0 : (Str.empty).length = 0 := rfl
    have z1 : ("no such text: row " : Str).length ≤ 1000 := by decide +kernel
    have h2 : (Str.ofString (toString r)).length ≤ 2000 := few
    refine ⟨_, rfl, ?_, ?_⟩
    · rw [strLen_append, e0]
      exact Nat.le_trans (Nat.add_le_add_left z1 _) (by omega)
    · refine ⟨.int r, rfl, .inr ⟨r, rfl, hl, _, rfl, ?_, rfl, ha, rfl⟩⟩
      rw [strLen_append, strLen_append, e0]
      exact Nat.le_trans (Nat.add_le_add (Nat.add_le_add_left z1 _) h2) (by omega)
  · subst e1
    refine PySem.wpAt_of_wpAny (wpAny_mono ((pss_one (ps_ost (pv 0) (pv 1))).run [] s2 _ H1 { nx := fun _ H' => Q .non H', rt := Q } I1 ?_) (fun fl s' hs => ?_) fun _ _ z => z)
    · exact ⟨.int r, rfl, .ref a, rfl, a, D, rfl, T, hno, .inl ⟨ha1, fun dx h1 h2 => hq dx h1 h2⟩⟩
    · match fl, hs with
      | .ret u, hs => exact hs
      | .next, hs => exact hs
      | .brk, ⟨_, _, _, q⟩ => exact q.elim
      | .cont, ⟨_, _, _, q⟩ => exact q.elim
/-! ### the purse -/
theorem CellOk_small {i : Int} (h : (if i < 0 then -i else i) < 10 ^ 18) : CellOk i := by
  unfold CellOk
  have h2 : (10 : Nat) ^ 18 < 2 ^ 4000 := by decide +kernel
  have h3 : (10 : Int) ^ 18 = ((10 ^ 18 : Nat) : Int) := by decide +kernel
  rw [h3] at h
  refine Nat.lt_trans ?_ h2
  split at h <;> omega
theorem CellOk_mod (i : Int) : CellOk (i % ((10 ^ (60 : Nat)) ^ (20 : Nat))) := by
  unfold CellOk
  have h2 : ((10 : Nat) ^ 60) ^ 20 < 2 ^ 4000 := by decide +kernel
  have h3 : ((10 : Int) ^ (60 : Nat)) ^ (20 : Nat) = (((10 ^ 60) ^ 20 : Nat) : Int) := by decide +kernel
  rw [h3]
  have h4 : (0 : Int) < (((10 ^ 60) ^ 20 : Nat) : Int) := by decide +kernel
  have a := Int.emod_nonneg i (Int.ne_of_gt h4)
  have b := Int.emod_lt_of_pos i h4
  refine Nat.lt_trans ?_ h2
  revert a b
  generalize i % (((10 ^ 60) ^ 20 : Nat) : Int) = x
  generalize (10 ^ 60) ^ 20 = y
  intro a b
  omega
theorem cut63 {xs : List V} (h : xs.length ≤ 63) : cutV xs none (some 63) = xs := by
  unfold cutV
  rw [HT.sIx_none, show HT.sIx xs.length xs.length (some 63) = min 63 xs.length from HT.sIx_nat xs.length xs.length 63, List.drop_zero]
  exact List.take_of_length_le (by omega)
theorem ok_purse {f : Addr} {fd : FuncData} (F : Fun K "_law_purse" "_law_purse" s__law_purse f fd) (m_range : mg "range" = none) (m_len : mg "len" = none) (m_abs : mg "abs" = none) : FnOk P w K mg base CX0 1 f fd ["_law_script"] (spPurse K) := by
  refine F.ok sc__law_purse (fun vs H Q E h => ?_) (fun cdv A outer s H vs Q E hr h => ?_)
  · obtain ⟨a, ns, rfl, _⟩ := h
    rfl
  · obtain ⟨a, ns, rfl, hS, hl, k⟩ := h
    have hu := hr.units
    refine ⟨_, pss_cons (ps_set (i := 1) sc__law_purse.nd rfl (Or.inl rfl) (pe_slice sl_list (pv 0) po_none (po_some pe_int)))
      (pss_cons (ps_for PassesOwn.never rfl (pi_range1 (by rfl) m_range (pa_cons (pe_callB call_len_seq (by rfl) m_len (by decide +kernel) (pa_cons (pv 1) pa_nil)) pa_nil)) (pg_name (i := 2) sc__law_purse.nd rfl (Or.inl rfl))
        (pss_one (ps_if (pt_cmpR op_ge (pe_callB call_abs (by rfl) m_abs (by decide +kernel) (pa_cons (pe_ix ix_list (pv 1) (pv 2) (fun _ _ => rfl)) pa_nil)) (pe_op op_powX pe_int pe_int) (nomark _))
          (pss_one (ps_asg (pe_op op_mod (pe_ix ix_list (pv 1) (pv 2) (fun _ _ => rfl)) (pe_op op_powX (pe_op op_powX pe_int pe_int) pe_int)) (pg_sub (pv 1) (pv 2) set_list))) pss_nil)))
      (pss_cons (ps_if (pt_cmpR (op_eqD hu) (pv 1) (pe_lst pa_nil) (nomark _)) (pss_one (ps_set (i := 1) sc__law_purse.nd rfl (Or.inl rfl) (pe_lst (pa_cons pe_int pa_nil)))) pss_nil)
      (pss_one (ps_ret (pe_lst (pa_cons (pv 1) (pa_cons pe_int pa_nil))))))), ?_⟩
    refine ⟨.ref a, rfl, 63, rfl, a, ns.map V.int, rfl, hS, fun c nc => ?_⟩
    rw [cut63 (by rw [List.length_map]; exact hl)]
    refine ⟨.ref c, rfl, c, ns.map V.int, rfl, .inl (sq_of upd_same), ((ns.map V.int).length : Int), rfl, by omega, by rw [List.length_map]; omega, ?_⟩
    rw [Int.toNat_natCast, List.length_map]
    refine for_range (lo := 0) (n := ns.length) (fun i σ H' => ∃ (cs : List Int) (y : Option V), σ = [some (.ref a), some (.ref c), y] ∧ Ex H H' ∧ H' c = some (.lst (cs.map V.int)) ∧ cs.length = ns.length ∧ ∀ j, j < i → ∀ v, cs[j]? = some v → CellOk v) ?_ ?_ ?_
    · exact ⟨ns, none, rfl, Ex.new nc, upd_same, rfl, fun j hj => absurd hj (Nat.not_lt_zero _)⟩
    · rintro i σ H1 hi ⟨cs, y, rfl, e1, hc, hlen, hok⟩
      have hi2 : i < cs.length := by omega
      have hat : atI (cs.map V.int) ((0 : Int) + (i : Int)) = some (.int cs[i]) := by
        rw [Int.zero_add]
        exact atI_nat (by rw [List.getElem?_map, List.getElem?_eq_getElem hi2]; rfl)
      refine ⟨.ref c, rfl, .int ((0 : Int) + (i : Int)), rfl, c, _, _, _, rfl, rfl, sq_of hc, hat, cs[i], rfl, 10, 18, rfl, rfl, ⟨by decide, by decide +kernel⟩, _, _, rfl, rfl, _, rfl, ?_⟩
      refine ite2 (fun hb => ?_) (fun hb => ?_)
      · refine ⟨.ref c, rfl, .int ((0 : Int) + (i : Int)), rfl, c, _, _, _, rfl, rfl, sq_of hc, hat, 10, 60, rfl, rfl, ⟨by decide, by decide +kernel⟩, _, 20, rfl, rfl, ⟨by decide, by decide +kernel⟩, cs[i], _, rfl, rfl, (by show (0 : Int) < (10 ^ (60 : Int).toNat) ^ (20 : Int).toNat; decide +kernel), .ref c, rfl, .int ((0 : Int) + (i : Int)), rfl, c, _, _, i, rfl, rfl, hc, ?_, ?_⟩
        · rw [Int.zero_add, List.length_map]
          exact Evl.ixN_nat hi2
        · refine ⟨cs.set i (cs[i] % ((10 ^ (60 : Nat)) ^ (20 : Nat))), _, rfl, e1.mut nc, ?_, by rw [List.length_set]; exact hlen, fun j hj v hv => ?_⟩
          · rw [upd_same, ← List.map_set]
            rfl
          · by_cases hji : j = i
            · subst hji
              rw [List.getElem?_set_self hi2] at hv
              cases hv
              exact CellOk_mod _
            · rw [List.getElem?_set_ne (fun z => hji z.symm)] at hv
              exact hok j (by omega) v hv
      · refine ⟨cs, _, rfl, e1, hc, hlen, fun j hj v hv => ?_⟩
        by_cases hji : j = i
        · subst hji
          rw [List.getElem?_eq_getElem hi2] at hv
          cases hv
          refine CellOk_small ?_
          have hb2 : ¬ ((10 : Int) ^ (18 : Int).toNat ≤ (if cs[j] < 0 then -cs[j] else cs[j])) := fun z => hb (decide_eq_true z)
          have e18 : (10 : Int) ^ (18 : Int).toNat = 10 ^ 18 := by decide +kernel
          rw [e18] at hb2
          exact Int.lt_of_not_ge hb2
        · exact hok j (by omega) v hv
    · rintro σ H1 ⟨cs, y, rfl, e1, hc, hlen, hok⟩
      have hcv : ∀ v ∈ cs, CellOk v := fun v hv => by
        obtain ⟨j, hj, rfl⟩ := List.mem_iff_getElem.mp hv
        exact hok j (by omega) _ (List.getElem?_eq_getElem hj)
      refine ⟨.ref c, rfl, Nat.zero_le _, fun q nq => ?_⟩
      have ncq : c ≠ q := ne_of_none hc nq
      have hc2 : (upd H1 q (.lst [])) c = some (.lst (cs.map V.int)) := by rw [upd_ne ncq]; exact hc
      refine ⟨.list (cs.map .int), .list [], .lst (sq_of hc2) (dpa_of_ints cs), .lst (sq_of upd_same) .nil, shaped_ints cs, rfl, _, rfl, ?_⟩
      have e2 : Ex H (upd H1 q (.lst [])) := e1.trans (Ex.new nq)
      cases cs with
      | nil =>
        refine iteT ?_
        refine ⟨by decide, fun r nr => ?_⟩
        have nr1 : H1 r = none := fresh_back (Ex.new nq) nr
        refine ⟨.ref r, rfl, (by show 2 ≤ sizeLine; decide), fun p np => ?_⟩
        have np0 := fresh_back (Ex.new nr) np
        have hp0 : H p = none := fresh_back e2 np0
        have npr : r ≠ p := ne_of_none (upd_same) np
        refine k p r _ hp0 (fresh_back e2 nr) npr.symm ((e2.trans (Ex.new nr)).trans (Ex.new np)) ⟨[0], 0, upd_same, ?_, by decide, by decide, ?_, by decide⟩
        · rw [upd_ne npr, upd_same]
          rfl
        · intro i hi
          rw [List.mem_singleton.mp hi]
          exact CellOk_small (by decide)
      | cons x r =>
        have hlv : PyData.eqv (.list ((x :: r).map .int)) (.list []) = false := by simp [PyData.eqv, PyData.eqvAll]
        rw [hlv]
        refine iteF ?_
        refine ⟨.ref c, rfl, (by show 2 ≤ sizeLine; decide), fun p np => ?_⟩
        have hp0 : H p = none := fresh_back e2 np
        have npc : c ≠ p := ne_of_none hc2 np
        refine k p c _ hp0 nc npc.symm (e2.trans (Ex.new np)) ⟨x :: r, 0, upd_same, ?_, by simp, by omega, hcv, by decide⟩
        rw [upd_ne npc]
        exact hc2
theorem ok_draw {f : Addr} {fd : FuncData} (F : Fun K "_law_draw" "_law_draw" s__law_draw f fd) (m_len : mg "len" = none) : FnOk P w K mg base CX0 1 f fd ["_law_purse_here", "_law_out_of"] spDraw := by
  refine F.ok sc__law_draw (fun vs H Q E h => ?_) (fun cdv A outer s H vs Q E hr h => ?_)
  · obtain ⟨p, c, n, m, rfl, _⟩ := h
    rfl
  · obtain ⟨p, c, n, m, rfl, ⟨cs, t, hp, hc, h0, h63, hok, ht⟩, m1, m2, k⟩ := h
    have hu := hr.units
    refine ⟨_, (pss_cons (ps_asg (pv 0) (pg_unl rfl (pgs_cons (pg_name (i := 2) sc__law_draw.nd rfl (Or.inl rfl)) (pgs_cons (pg_name (i := 3) sc__law_draw.nd rfl (Or.inl rfl)) pgs_nil))))
        (pss_cons (ps_set (i := 4) sc__law_draw.nd rfl (Or.inl rfl) (pe_op op_mod (pv 3) (pe_callB call_len_seq (by rfl) m_len (by decide +kernel) (pa_cons (pv 2) pa_nil))))
        (pss_cons (ps_set (i := 5) sc__law_draw.nd rfl (Or.inl rfl) (pe_ix ix_list (pv 2) (pv 4) (fun _ _ => rfl)))
        (pss_cons (ps_asg (pe_op op_add (pv 3) pe_int) (pg_sub (pv 0) pe_int set_list))
        (pss_cons (ps_if (pt_cmpR op_ge (pv 5) (pe_op op_powX pe_int pe_int) (nomark _)) (pss_cons (ps_asg (pe_op op_fdivW (pv 5) (pv 1)) (pg_sub (pv 2) (pv 4) set_list))
        (pss_one (ps_ret (pe_op op_mod (pv 5) (pv 1))))) pss_nil)
        (pss_cons (ps_set (i := 6) sc__law_draw.nd rfl (Or.inl rfl) (pe_op op_mod (pe_op op_add (pe_op op_add (pe_op op_mul (pe_op op_mod (pv 5) pe_int) pe_int) (pe_op op_mul (pe_op op_mul (pv 3) (pv 3)) pe_int)) pe_int) pe_int))
        (pss_cons (ps_set (i := 6) sc__law_draw.nd rfl (Or.inl rfl) (pe_op op_mod (pe_op op_mul (pv 6) (pv 6)) pe_int))
        (pss_cons (ps_set (i := 6) sc__law_draw.nd rfl (Or.inl rfl) (pe_op op_mod (pe_op op_mul (pv 6) (pv 6)) pe_int))
        (pss_cons (ps_if (pt_cmpR op_gt (pv 1) (pe_op op_powX pe_int pe_int) (nomark _)) (pss_cons (ps_set (i := 7) sc__law_draw.nd rfl (Or.inl rfl) (pe_op op_mod (pe_op op_add (pe_op op_add (pe_op op_mul (pv 6) pe_int) (pe_op op_mul (pv 3) pe_int)) pe_int) pe_int))
        (pss_one (ps_set (i := 6) sc__law_draw.nd rfl (Or.inl rfl) (pe_op op_mul (pv 6) (pe_op op_add (pe_op op_mul (pe_op op_mul (pv 7) (pv 7)) (pv 7)) pe_int))))) pss_nil)
        (pss_one (ps_ret (pe_op op_mod (pv 6) (pv 1))))))))))))), ?_⟩
    have npc : c ≠ p := fun z => by
      rw [z, hp] at hc
      have := Option.some.inj hc
      have e2 : [V.ref c, V.int (t : Int)] = cs.map V.int := by injection this
      cases cs with
      | nil => cases e2
      | cons x r => cases e2
    have hn0 : (0 : Int) < (cs.length : Int) := by omega
    obtain ⟨j, hj⟩ : ∃ j : Nat, (t : Int) % (cs.length : Int) = (j : Int) := ⟨((t : Int) % (cs.length : Int)).toNat, by have := Int.emod_nonneg (t : Int) (Int.ne_of_gt hn0); omega⟩
    have hj2 : j < cs.length := by have := Int.emod_lt_of_pos (t : Int) hn0; omega
    have hat : atI (cs.map V.int) (j : Int) = some (.int cs[j]) := atI_nat (by rw [List.getElem?_map, List.getElem?_eq_getElem hj2]; rfl)
    -- cells, turn = purse
    refine ⟨.ref p, rfl, p, _, rfl, sq_of hp, rfl, .ref c, _, rfl, .int (t : Int), [], rfl, rfl, ?_⟩
    -- at = turn % len(cells)
    refine ⟨.int (t : Int), rfl, .ref c, rfl, c, _, rfl, .inl (sq_of hc), (t : Int), _, rfl, rfl, (by rw [List.length_map]; exact hn0), ?_⟩
    rw [List.length_map]
    show gName 4 (.int ((t : Int) % (cs.length : Int))) _ _ _
    rw [hj]
    -- cell = cells[at]
    refine ⟨.ref c, rfl, .int (j : Int), rfl, c, _, _, _, rfl, rfl, sq_of hc, hat, ?_⟩
    -- purse[1] = turn + 1
    refine ⟨.int (t : Int), rfl, (t : Int), 1, rfl, rfl, .ref p, rfl, p, _, _, 1, rfl, rfl, hp, rfl, ?_⟩
    have hc2 : (upd H p (.lst ([V.ref c, V.int (t : Int)].set 1 (.int ((t : Int) + 1))))) c = some (.lst (cs.map V.int)) := by rw [upd_ne npc]; exact hc
    have hp2 : (upd H p (.lst ([V.ref c, V.int (t : Int)].set 1 (.int ((t : Int) + 1))))) p = some (.lst [V.ref c, V.int (((t + 1 : Nat)) : Int)]) := by rw [upd_same]; rfl
    -- if cell >= 10 ** 18
    refine ⟨.int cs[j], rfl, 10, 18, rfl, rfl, ⟨by decide, by decide +kernel⟩, _, _, rfl, rfl, _, rfl, ?_⟩
    refine ite2 (fun hb => ?_) (fun hb => ?_)
    · have hb2 : (10 : Int) ^ (18 : Int).toNat ≤ cs[j] := of_decide_eq_true hb
      have hb3 : 0 ≤ cs[j] := Int.le_trans (by decide) hb2
      refine ⟨.int cs[j], rfl, .int m, rfl, _, _, rfl, rfl, ⟨by omega, ?_⟩, .ref c, rfl, .int (j : Int), rfl, c, _, _, j, rfl, rfl, hc2, (by rw [List.length_map]; exact Evl.ixN_nat hj2), ?_⟩
      · refine Nat.lt_of_lt_of_le (PySem.Flt.log2_lt_of (k := 4001) (by decide) ?_) (by decide)
        have e4 : (2 : Int) ^ 4000 = ((2 ^ 4000 : Nat) : Int) := by decide +kernel
        rw [e4] at m2
        have e5 : (2 : Nat) ^ 4000 < 2 ^ 4001 := by decide +kernel
        revert m2 e5
        generalize (2 : Nat) ^ 4000 = y
        generalize (2 : Nat) ^ 4001 = z
        intro m2 e5
        omega
      · refine ⟨.int cs[j], rfl, .int m, rfl, _, _, rfl, rfl, (by show (0 : Int) < m; omega), ?_⟩
        refine k _ _ (Int.emod_nonneg _ (by omega)) (Int.emod_lt_of_pos _ (by omega)) ⟨cs.set j (cs[j] / m), t + 1, ?_, ?_, by rw [List.length_set]; exact h0, by rw [List.length_set]; exact h63, fun i hi => ?_, by omega⟩ fun b o n1 n2 e => ?_
        · rw [upd_ne npc.symm]
          exact hp2
        · rw [upd_same, ← List.map_set]
        · rcases List.mem_or_eq_of_mem_set hi with hi | rfl
          · exact hok i hi
          · have h1 := hok _ (List.getElem_mem hj2)
            unfold CellOk at h1 ⊢
            refine Nat.lt_of_le_of_lt ?_ h1
            have h5 : cs[j] / m ≤ cs[j] := Int.ediv_le_self _ hb3
            have h6 : 0 ≤ cs[j] / m := Int.ediv_nonneg hb3 (by omega)
            omega
        · rw [upd_ne n2, upd_ne n1]
          exact e
    · have m31 : ∀ (x y : Int), 0 < y → 0 ≤ x % y ∧ x % y < y := fun x y h => ⟨Int.emod_nonneg x (Int.ne_of_gt h), Int.emod_lt_of_pos x h⟩
      have t60 : (t : Int) ≤ 2 ^ 60 := by omega
      refine ⟨.int cs[j], rfl, _, _, rfl, rfl, (by show (0 : Int) < 2147483629; decide), _, _, rfl, rfl, .inr ⟨by decide, by decide⟩, .int (t : Int), rfl, .int (t : Int), rfl, _, _, rfl, rfl, .inl ⟨by omega, by omega⟩, _, _, rfl, rfl, .inr ⟨by decide, by decide⟩, _, _, rfl, rfl, _, _, rfl, rfl, _, _, rfl, rfl, (by show (0 : Int) < 2147483647; decide), ?_⟩
      dsimp only
      generalize hx1 : (cs[j] % 2147483629 * 48271 + (t : Int) * (t : Int) * 69621 + 11) % 2147483647 = x1
      have b1 := m31 (cs[j] % 2147483629 * 48271 + (t : Int) * (t : Int) * 69621 + 11) 2147483647 (by decide)
      rw [hx1] at b1
      refine ⟨.int x1, rfl, .int x1, rfl, _, _, rfl, rfl, .inl ⟨by omega, by omega⟩, _, _, rfl, rfl, (by show (0 : Int) < 2147483629; decide), ?_⟩
      dsimp only
      generalize hx2 : x1 * x1 % 2147483629 = x2
      have b2 := m31 (x1 * x1) 2147483629 (by decide)
      rw [hx2] at b2
      refine ⟨.int x2, rfl, .int x2, rfl, _, _, rfl, rfl, .inl ⟨by omega, by omega⟩, _, _, rfl, rfl, (by show (0 : Int) < 2147483587; decide), ?_⟩
      dsimp only
      generalize hx3 : x2 * x2 % 2147483587 = x3
      have b3 := m31 (x2 * x2) 2147483587 (by decide)
      rw [hx3] at b3
      have fin : ∀ (r : Int), 0 ≤ r → r < m → Q (.int r) (upd H p (.lst ([V.ref c, V.int (t : Int)].set 1 (.int ((t : Int) + 1))))) := fun r r0 r1 =>
        k r _ r0 r1 ⟨cs, t + 1, hp2, hc2, h0, h63, hok, by omega⟩ fun b o n1 n2 e => by rw [upd_ne n1]; exact e
      refine ⟨.int m, rfl, 10, 9, rfl, rfl, ⟨by decide, by decide +kernel⟩, _, _, rfl, rfl, _, rfl, ?_⟩
      refine ite2 (fun _ => ?_) (fun _ => ?_)
      · refine ⟨.int x3, rfl, _, _, rfl, rfl, .inl ⟨by omega, by omega⟩, .int (t : Int), rfl, _, _, rfl, rfl, .inl ⟨by omega, by omega⟩, _, _, rfl, rfl, _, _, rfl, rfl, _, _, rfl, rfl, (by show (0 : Int) < 2147483629; decide), ?_⟩
        dsimp only
        generalize hx4 : (x3 * 39373 + (t : Int) * 7919 + 500) % 2147483629 = x4
        have b4 := m31 (x3 * 39373 + (t : Int) * 7919 + 500) 2147483629 (by decide)
        rw [hx4] at b4
        refine ⟨.int x3, rfl, .int x4, rfl, .int x4, rfl, _, _, rfl, rfl, .inl ⟨by omega, by omega⟩, .int x4, rfl, _, _, rfl, rfl, .inr ⟨by omega, by omega⟩, _, _, rfl, rfl, _, _, rfl, rfl, .inl ⟨by omega, by omega⟩, ?_⟩
        refine ⟨_, rfl, .int m, rfl, _, _, rfl, rfl, (by show (0 : Int) < m; omega), ?_⟩
        exact fin _ (Int.emod_nonneg _ (by omega)) (Int.emod_lt_of_pos _ (by omega))
      · refine ⟨.int x3, rfl, .int m, rfl, _, _, rfl, rfl, (by show (0 : Int) < m; omega), ?_⟩
        exact fin _ (Int.emod_nonneg _ (by omega)) (Int.emod_lt_of_pos _ (by omega))
theorem ok__law_marks {f : Addr} {fd : FuncData} (F : Fun K "_law_marks" "_law_marks" s__law_marks f fd) (m_isinstance : mg "isinstance" = none) (m_len : mg "len" = none) (m_range : mg "range" = none) (mc_NoBack : mg "NoBack" = some (.ref 238)) (mc_NoBase : mg "NoBase" = some (.ref 250)) (mc_NoChange : mg "NoChange" = some (.ref 157)) (mc_NoCounts : mg "NoCounts" = some (.ref 85)) (mc_NoCube : mg "NoCube" = some (.ref 145)) (mc_NoCubes : mg "NoCubes" = some (.ref 121)) (mc_NoFit : mg "NoFit" = some (.ref 109)) (mc_NoName : mg "NoName" = some (.ref 202)) (mc_NoNumber : mg "NoNumber" = some (.ref 97)) (mc_NoPaints : mg "NoPaints" = some (.ref 61)) (mc_NoPalette : mg "NoPalette" = some (.ref 73)) (mc_NoPaper : mg "NoPaper" = some (.ref 262)) (mc_NoPlace : mg "NoPlace" = some (.ref 226)) (mc_NoRow : mg "NoRow" = some (.ref 190)) (mc_NoSix : mg "NoSix" = some (.ref 133)) (mc_NoStock : mg "NoStock" = some (.ref 178)) (mc_NoText : mg "NoText" = some (.ref 284)) (mc_NoTurn : mg "NoTurn" = some (.ref 37)) (mc_NoWord : mg "NoWord" = some (.ref 49)) (mc_TooMany : mg "TooMany" = some (.ref 214)) (hkx : KX K (kxL RS CS)): FnOk P w K mg base (L2.CX P w) 1 f fd ["_law_caught_here"] (spE K F__law_marks 1) := by
  refine F.okX sc__law_marks spE_len (fun cdv A outer s H vs Q E hr h => ?_)
  have hu := hr.units
  have hu5 := hu5_of hr
  unfold F__law_marks at h
  refine ⟨_, (pss_cons (ps_set (i := 1) sc__law_marks.nd rfl (Or.inr rfl) (pe_lst (pa_cons (pe_callB call_isU (by rfl) m_isinstance (by decide +kernel) (pa_cons (pv 0) (pa_cons (pe_glob (v := .ref 37) (by rfl) mc_NoTurn rfl) pa_nil))) (pa_cons (pe_callB call_isU (by rfl) m_isinstance (by decide +kernel) (pa_cons (pv 0) (pa_cons (pe_glob (v := .ref 49) (by rfl) mc_NoWord rfl) pa_nil))) (pa_cons (pe_callB call_isU (by rfl) m_isinstance (by decide +kernel) (pa_cons (pv 0) (pa_cons (pe_glob (v := .ref 61) (by rfl) mc_NoPaints rfl) pa_nil))) pa_nil)))))
        (pss_cons (ps_set (i := 1) sc__law_marks.nd rfl (Or.inr rfl) (pe_op op_addU (pv 1) (pe_lst (pa_cons (pe_callB call_isU (by rfl) m_isinstance (by decide +kernel) (pa_cons (pv 0) (pa_cons (pe_glob (v := .ref 73) (by rfl) mc_NoPalette rfl) pa_nil))) (pa_cons (pe_callB call_isU (by rfl) m_isinstance (by decide +kernel) (pa_cons (pv 0) (pa_cons (pe_glob (v := .ref 85) (by rfl) mc_NoCounts rfl) pa_nil))) (pa_cons (pe_callB call_isU (by rfl) m_isinstance (by decide +kernel) (pa_cons (pv 0) (pa_cons (pe_glob (v := .ref 97) (by rfl) mc_NoNumber rfl) pa_nil))) pa_nil))))))
        (pss_cons (ps_set (i := 1) sc__law_marks.nd rfl (Or.inr rfl) (pe_op op_addU (pv 1) (pe_lst (pa_cons (pe_callB call_isU (by rfl) m_isinstance (by decide +kernel) (pa_cons (pv 0) (pa_cons (pe_glob (v := .ref 109) (by rfl) mc_NoFit rfl) pa_nil))) (pa_cons (pe_callB call_isU (by rfl) m_isinstance (by decide +kernel) (pa_cons (pv 0) (pa_cons (pe_glob (v := .ref 121) (by rfl) mc_NoCubes rfl) pa_nil))) (pa_cons (pe_callB call_isU (by rfl) m_isinstance (by decide +kernel) (pa_cons (pv 0) (pa_cons (pe_glob (v := .ref 133) (by rfl) mc_NoSix rfl) pa_nil))) pa_nil))))))
        (pss_cons (ps_set (i := 1) sc__law_marks.nd rfl (Or.inr rfl) (pe_op op_addU (pv 1) (pe_lst (pa_cons (pe_callB call_isU (by rfl) m_isinstance (by decide +kernel) (pa_cons (pv 0) (pa_cons (pe_glob (v := .ref 145) (by rfl) mc_NoCube rfl) pa_nil))) (pa_cons (pe_callB call_isU (by rfl) m_isinstance (by decide +kernel) (pa_cons (pv 0) (pa_cons (pe_glob (v := .ref 157) (by rfl) mc_NoChange rfl) pa_nil))) (pa_cons (pe_callB call_isU (by rfl) m_isinstance (by decide +kernel) (pa_cons (pv 0) (pa_cons (pe_glob (v := .ref 178) (by rfl) mc_NoStock rfl) pa_nil))) pa_nil))))))
        (pss_cons (ps_set (i := 1) sc__law_marks.nd rfl (Or.inr rfl) (pe_op op_addU (pv 1) (pe_lst (pa_cons (pe_callB call_isU (by rfl) m_isinstance (by decide +kernel) (pa_cons (pv 0) (pa_cons (pe_glob (v := .ref 190) (by rfl) mc_NoRow rfl) pa_nil))) (pa_cons (pe_callB call_isU (by rfl) m_isinstance (by decide +kernel) (pa_cons (pv 0) (pa_cons (pe_glob (v := .ref 202) (by rfl) mc_NoName rfl) pa_nil))) (pa_cons (pe_callB call_isU (by rfl) m_isinstance (by decide +kernel) (pa_cons (pv 0) (pa_cons (pe_glob (v := .ref 214) (by rfl) mc_TooMany rfl) pa_nil))) pa_nil))))))
        (pss_cons (ps_set (i := 1) sc__law_marks.nd rfl (Or.inr rfl) (pe_op op_addU (pv 1) (pe_lst (pa_cons (pe_callB call_isU (by rfl) m_isinstance (by decide +kernel) (pa_cons (pv 0) (pa_cons (pe_glob (v := .ref 226) (by rfl) mc_NoPlace rfl) pa_nil))) (pa_cons (pe_callB call_isU (by rfl) m_isinstance (by decide +kernel) (pa_cons (pv 0) (pa_cons (pe_glob (v := .ref 238) (by rfl) mc_NoBack rfl) pa_nil))) (pa_cons (pe_callB call_isU (by rfl) m_isinstance (by decide +kernel) (pa_cons (pv 0) (pa_cons (pe_glob (v := .ref 250) (by rfl) mc_NoBase rfl) pa_nil))) pa_nil))))))
        (pss_cons (ps_set (i := 1) sc__law_marks.nd rfl (Or.inr rfl) (pe_op op_addU (pv 1) (pe_lst (pa_cons (pe_callB call_isU (by rfl) m_isinstance (by decide +kernel) (pa_cons (pv 0) (pa_cons (pe_glob (v := .ref 262) (by rfl) mc_NoPaper rfl) pa_nil))) (pa_cons (pe_callB call_isU (by rfl) m_isinstance (by decide +kernel) (pa_cons (pv 0) (pa_cons (pe_glob (v := .ref 284) (by rfl) mc_NoText rfl) pa_nil))) pa_nil)))))
        (pss_one (ps_ret (pe_lc (te := (tVar 2)) (tt := (tB (tOp (rIx K) (tVar 1) (tVar 2)))) (own := [("_law_k", 2)]) (g := (gName 2)) rfl sc__law_marks.nd (pi_range1 (by rfl) m_range (pa_cons (pe_callB call_lenU (by rfl) m_len (by decide +kernel) (pa_cons (pv 1) pa_nil)) pa_nil)) (blkOk_by (own := [("_law_k", 2)]) (N := N__law_marks) (sc := defScope s__law_marks) (by decide +kernel)) (fun _ _ _ _ _ => (pg_name (i := 2) sc__law_marks.nd rfl (Or.inl rfl))) (fun _ _ _ _ _ => (pts_one (pt_val (pe_ix ix_seq (pv 1) (pv 2) (fun _ _ => rfl))))) (fun _ _ _ _ _ => (pv 2)))))))))))), ?_⟩
  exact run_ev (N := N__law_marks) (body := mb__law_marks) h fun f => (ss_seq (ss_set (se_lst (sa_cons (se_cb (sa_cons se_var (sa_cons se_v sa_nil)) (os_isi hkx)) (sa_cons (se_cb (sa_cons se_var (sa_cons se_v sa_nil)) (os_isi hkx)) (sa_cons (se_cb (sa_cons se_var (sa_cons se_v sa_nil)) (os_isi hkx)) sa_nil)))))
        (ss_seq (ss_set (se_op se_var (se_lst (sa_cons (se_cb (sa_cons se_var (sa_cons se_v sa_nil)) (os_isi hkx)) (sa_cons (se_cb (sa_cons se_var (sa_cons se_v sa_nil)) (os_isi hkx)) (sa_cons (se_cb (sa_cons se_var (sa_cons se_v sa_nil)) (os_isi hkx)) sa_nil)))) os_add))
        (ss_seq (ss_set (se_op se_var (se_lst (sa_cons (se_cb (sa_cons se_var (sa_cons se_v sa_nil)) (os_isi hkx)) (sa_cons (se_cb (sa_cons se_var (sa_cons se_v sa_nil)) (os_isi hkx)) (sa_cons (se_cb (sa_cons se_var (sa_cons se_v sa_nil)) (os_isi hkx)) sa_nil)))) os_add))
        (ss_seq (ss_set (se_op se_var (se_lst (sa_cons (se_cb (sa_cons se_var (sa_cons se_v sa_nil)) (os_isi hkx)) (sa_cons (se_cb (sa_cons se_var (sa_cons se_v sa_nil)) (os_isi hkx)) (sa_cons (se_cb (sa_cons se_var (sa_cons se_v sa_nil)) (os_isi hkx)) sa_nil)))) os_add))
        (ss_seq (ss_set (se_op se_var (se_lst (sa_cons (se_cb (sa_cons se_var (sa_cons se_v sa_nil)) (os_isi hkx)) (sa_cons (se_cb (sa_cons se_var (sa_cons se_v sa_nil)) (os_isi hkx)) (sa_cons (se_cb (sa_cons se_var (sa_cons se_v sa_nil)) (os_isi hkx)) sa_nil)))) os_add))
        (ss_seq (ss_set (se_op se_var (se_lst (sa_cons (se_cb (sa_cons se_var (sa_cons se_v sa_nil)) (os_isi hkx)) (sa_cons (se_cb (sa_cons se_var (sa_cons se_v sa_nil)) (os_isi hkx)) (sa_cons (se_cb (sa_cons se_var (sa_cons se_v sa_nil)) (os_isi hkx)) sa_nil)))) os_add))
        (ss_seq (ss_set (se_op se_var (se_lst (sa_cons (se_cb (sa_cons se_var (sa_cons se_v sa_nil)) (os_isi hkx)) (sa_cons (se_cb (sa_cons se_var (sa_cons se_v sa_nil)) (os_isi hkx)) sa_nil))) os_add))
        (ss_ret (se_lc (si_range1 (sa_cons (se_cb (sa_cons se_var sa_nil) os_len) sa_nil)) sg_name (st_B (se_op se_var se_var os_ix)) se_var gw_name)))))))))
theorem ok__law_first {f : Addr} {fd : FuncData} (F : Fun K "_law_first" "_law_first" s__law_first f fd) (R_NoCounts : Rai K mg "NoCounts" 85) (R_NoCube : Rai K mg "NoCube" 145) (R_NoCubes : Rai K mg "NoCubes" 121) (R_NoFit : Rai K mg "NoFit" 109) (R_NoNumber : Rai K mg "NoNumber" 97) (R_NoPaints : Rai K mg "NoPaints" 61) (R_NoPalette : Rai K mg "NoPalette" 73) (R_NoSix : Rai K mg "NoSix" 133) (R_NoTurn : Rai K mg "NoTurn" 37) (R_NoWord : Rai K mg "NoWord" 49): FnOk P w K mg base (L2.CX P w) 1 f fd ["_law_which"] (spE K F__law_first 1) := by
  refine F.okX sc__law_first spE_len (fun cdv A outer s H vs Q E hr h => ?_)
  have hu := hr.units
  have hu5 := hu5_of hr
  unfold F__law_first at h
  refine ⟨_, (pss_cons (ps_if (pt_cmpR (op_eqD hu) (pv 0) pe_int (nomark _)) (pss_one (ps_raise rfl (takes_of rfl rfl rfl rfl) (pmk_p0 R_NoTurn (by rfl)))) pss_nil)
        (pss_cons (ps_if (pt_cmpR (op_eqD hu) (pv 0) pe_int (nomark _)) (pss_one (ps_raise rfl (takes_of rfl rfl rfl rfl) (pmk_p0 R_NoWord (by rfl)))) pss_nil)
        (pss_cons (ps_if (pt_cmpR (op_eqD hu) (pv 0) pe_int (nomark _)) (pss_one (ps_raise rfl (takes_of rfl rfl rfl rfl) (pmk_p0 R_NoPaints (by rfl)))) pss_nil)
        (pss_cons (ps_if (pt_cmpR (op_eqD hu) (pv 0) pe_int (nomark _)) (pss_one (ps_raise rfl (takes_of rfl rfl rfl rfl) (pmk_p0 R_NoPalette (by rfl)))) pss_nil)
        (pss_cons (ps_if (pt_cmpR (op_eqD hu) (pv 0) pe_int (nomark _)) (pss_one (ps_raise rfl (takes_of rfl rfl rfl rfl) (pmk_p0 R_NoCounts (by rfl)))) pss_nil)
        (pss_cons (ps_if (pt_cmpR (op_eqD hu) (pv 0) pe_int (nomark _)) (pss_one (ps_raise rfl (takes_of rfl rfl rfl rfl) (pmk_p0 R_NoNumber (by rfl)))) pss_nil)
        (pss_cons (ps_if (pt_cmpR (op_eqD hu) (pv 0) pe_int (nomark _)) (pss_one (ps_raise rfl (takes_of rfl rfl rfl rfl) (pmk_p0 R_NoFit (by rfl)))) pss_nil)
        (pss_cons (ps_if (pt_cmpR (op_eqD hu) (pv 0) pe_int (nomark _)) (pss_one (ps_raise rfl (takes_of rfl rfl rfl rfl) (pmk_p0 R_NoCubes (by rfl)))) pss_nil)
        (pss_cons (ps_if (pt_cmpR (op_eqD hu) (pv 0) pe_int (nomark _)) (pss_one (ps_raise rfl (takes_of rfl rfl rfl rfl) (pmk_p0 R_NoSix (by rfl)))) pss_nil)
        (pss_one (ps_if (pt_cmpR (op_eqD hu) (pv 0) pe_int (nomark _)) (pss_one (ps_raise rfl (takes_of rfl rfl rfl rfl) (pmk_p0 R_NoCube (by rfl)))) pss_nil))))))))))), ?_⟩
  exact run_ev (N := N__law_first) (body := mb__law_first) h fun f => (ss_seq (ss_if (st_test (se_op se_var se_int os_eq)) ss_raiseP ss_next)
        (ss_seq (ss_if (st_test (se_op se_var se_int os_eq)) ss_raiseP ss_next)
        (ss_seq (ss_if (st_test (se_op se_var se_int os_eq)) ss_raiseP ss_next)
        (ss_seq (ss_if (st_test (se_op se_var se_int os_eq)) ss_raiseP ss_next)
        (ss_seq (ss_if (st_test (se_op se_var se_int os_eq)) ss_raiseP ss_next)
        (ss_seq (ss_if (st_test (se_op se_var se_int os_eq)) ss_raiseP ss_next)
        (ss_seq (ss_if (st_test (se_op se_var se_int os_eq)) ss_raiseP ss_next)
        (ss_seq (ss_if (st_test (se_op se_var se_int os_eq)) ss_raiseP ss_next)
        (ss_seq (ss_if (st_test (se_op se_var se_int os_eq)) ss_raiseP ss_next)
        (ss_if (st_test (se_op se_var se_int os_eq)) ss_raiseP ss_next))))))))))
theorem ok__law_third {f : Addr} {fd : FuncData} (F : Fun K "_law_third" "_law_third" s__law_third f fd) (R_NoBack : Rai K mg "NoBack" 238) (R_NoCubes : Rai K mg "NoCubes" 121) (R_NoPaints : Rai K mg "NoPaints" 61) (R_NoPaper : Rai K mg "NoPaper" 262) (R_NoRow : Rai K mg "NoRow" 190) (R_NoTurn : Rai K mg "NoTurn" 37) (R_NoWord : Rai K mg "NoWord" 49): FnOk P w K mg base (L2.CX P w) 1 f fd ["_law_which", "_law_line"] (spE K F__law_third 2) := by
  refine F.okX sc__law_third spE_len (fun cdv A outer s H vs Q E hr h => ?_)
  have hu := hr.units
  have hu5 := hu5_of hr
  unfold F__law_third at h
  refine ⟨_, (pss_cons (ps_if (pt_cmpR (op_eqD hu) (pv 0) pe_int (nomark _)) (pss_one (ps_raise rfl (takes_of rfl rfl rfl rfl) (pmk_p1 R_NoTurn (pv 1) (by rfl)))) pss_nil)
        (pss_cons (ps_if (pt_cmpR (op_eqD hu) (pv 0) pe_int (nomark _)) (pss_one (ps_raise rfl (takes_of rfl rfl rfl rfl) (pmk_p1 R_NoPaints (pv 1) (by rfl)))) pss_nil)
        (pss_cons (ps_if (pt_cmpR (op_eqD hu) (pv 0) pe_int (nomark _)) (pss_one (ps_raise rfl (takes_of rfl rfl rfl rfl) (pmk_p1 R_NoCubes (pv 1) (by rfl)))) pss_nil)
        (pss_cons (ps_if (pt_cmpR (op_eqD hu) (pv 0) pe_int (nomark _)) (pss_one (ps_raise rfl (takes_of rfl rfl rfl rfl) (pmk_p0 R_NoRow (by rfl)))) pss_nil)
        (pss_cons (ps_if (pt_cmpR (op_eqD hu) (pv 0) pe_int (nomark _)) (pss_one (ps_raise rfl (takes_of rfl rfl rfl rfl) (pmk_p0 R_NoBack (by rfl)))) pss_nil)
        (pss_cons (ps_if (pt_cmpR (op_eqD hu) (pv 0) pe_int (nomark _)) (pss_one (ps_raise rfl (takes_of rfl rfl rfl rfl) (pmk_p0 R_NoPaper (by rfl)))) pss_nil)
        (pss_one (ps_if (pt_cmpR (op_eqD hu) (pv 0) pe_int (nomark _)) (pss_one (ps_raise rfl (takes_of rfl rfl rfl rfl) (pmk_p1 R_NoWord (pv 1) (by rfl)))) pss_nil)))))))), ?_⟩
  exact run_ev (N := N__law_third) (body := mb__law_third) h fun f => (ss_seq (ss_if (st_test (se_op se_var se_int os_eq)) (ss_raiseE se_var) ss_next)
        (ss_seq (ss_if (st_test (se_op se_var se_int os_eq)) (ss_raiseE se_var) ss_next)
        (ss_seq (ss_if (st_test (se_op se_var se_int os_eq)) (ss_raiseE se_var) ss_next)
        (ss_seq (ss_if (st_test (se_op se_var se_int os_eq)) ss_raiseP ss_next)
        (ss_seq (ss_if (st_test (se_op se_var se_int os_eq)) ss_raiseP ss_next)
        (ss_seq (ss_if (st_test (se_op se_var se_int os_eq)) ss_raiseP ss_next)
        (ss_if (st_test (se_op se_var se_int os_eq)) (ss_raiseE se_var) ss_next)))))))
theorem ok__law_due {f : Addr} {fd : FuncData} (F : Fun K "_law_due" "_law_due" s__law_due f fd) (m_list : mg "list" = none) (m_range : mg "range" = none): FnOk P w K mg base (L2.CX P w) 1 f fd ["_law_which"] (spE K F__law_due 1) := by
  refine F.okX sc__law_due spE_len (fun cdv A outer s H vs Q E hr h => ?_)
  have hu := hr.units
  have hu5 := hu5_of hr
  unfold F__law_due at h
  refine ⟨_, (pss_one (ps_ret (pe_ix ix_seq (pe_op op_addU (pe_listRg rfl (by rfl) m_list (prg_1 (by rfl) m_range pe_int)) (pe_lst (pa_cons pe_int (pa_cons pe_int (pa_cons pe_int (pa_cons pe_int (pa_cons pe_int (pa_cons pe_int (pa_cons pe_int (pa_cons pe_int (pa_cons pe_int pa_nil))))))))))) (pv 0) (fun _ _ => rfl)))), ?_⟩
  exact run_ev (N := N__law_due) (body := mb__law_due) h fun f => (ss_ret (se_op (se_op (se_lrg se_int) (se_lst (sa_cons se_int (sa_cons se_int (sa_cons se_int (sa_cons se_int (sa_cons se_int (sa_cons se_int (sa_cons se_int (sa_cons se_int (sa_cons se_int sa_nil)))))))))) os_add) se_var os_ix))
theorem ok__law_second {f : Addr} {fd : FuncData} (F : Fun K "_law_second" "_law_second" s__law_second f fd) (R_NoBack : Rai K mg "NoBack" 238) (R_NoBase : Rai K mg "NoBase" 250) (R_NoChange : Rai K mg "NoChange" 157) (R_NoName : Rai K mg "NoName" 202) (R_NoPaper : Rai K mg "NoPaper" 262) (R_NoPlace : Rai K mg "NoPlace" 226) (R_NoRow : Rai K mg "NoRow" 190) (R1_NoStock : RaiF P w K mg base (L2.CX P w) 1 "NoStock" 178 (fldB 0) [] []) {ds_NoText : List Value} (R_NoText : RaiF P w K mg base (L2.CX P w) 1 "NoText" 284 (fldB 1) ds_NoText [.int 0]) (R1_NoText : RaiF P w K mg base (L2.CX P w) 1 "NoText" 284 (fldB 1) [] []) (RK_NoText : RaiK P w K mg base (L2.CX P w) 1 "NoText" 284 (fldB 1)) (R_TooMany : Rai K mg "TooMany" 214): FnOk P w K mg base (L2.CX P w) 3 f fd ["_law_which", "_law_number", "_law_line"] (spE K F__law_second 3) := by
  refine F.okX sc__law_second spE_len (fun cdv A outer s H vs Q E hr h => ?_)
  have hu := hr.units
  have hu5 := hu5_of hr
  unfold F__law_second at h
  refine ⟨_, (pss_cons (ps_if (pt_cmpR (op_eqD hu) (pv 0) pe_int (nomark _)) (pss_one (ps_raise rfl (takes_of rfl rfl rfl rfl) (pmk_p1 R_NoChange (pv 2) (by rfl)))) pss_nil)
        (pss_cons (ps_if (pt_cmpR (op_eqD hu) (pv 0) pe_int (nomark _)) (pss_one (ps_raise rfl (takes_of rfl rfl rfl rfl) (pmk_f1 R1_NoStock (pv 1) (hr.mono (by decide)) pass_no (by rfl)))) pss_nil)
        (pss_cons (ps_if (pt_cmpR (op_eqD hu) (pv 0) pe_int (nomark _)) (pss_one (ps_raise rfl (takes_of rfl rfl rfl rfl) (pmk_p1 R_NoRow (pv 2) (by rfl)))) pss_nil)
        (pss_cons (ps_if (pt_cmpR (op_eqD hu) (pv 0) pe_int (nomark _)) (pss_one (ps_raise rfl (takes_of rfl rfl rfl rfl) (pmk_p1 R_NoName (pv 2) (by rfl)))) pss_nil)
        (pss_cons (ps_if (pt_cmpR (op_eqD hu) (pv 0) pe_int (nomark _)) (pss_one (ps_raise rfl (takes_of rfl rfl rfl rfl) (pmk_p1 R_TooMany (pv 2) (by rfl)))) pss_nil)
        (pss_cons (ps_if (pt_cmpR (op_eqD hu) (pv 0) pe_int (nomark _)) (pss_one (ps_raise rfl (takes_of rfl rfl rfl rfl) (pmk_p1 R_NoPlace (pv 2) (by rfl)))) pss_nil)
        (pss_cons (ps_if (pt_cmpR (op_eqD hu) (pv 0) pe_int (nomark _)) (pss_one (ps_raise rfl (takes_of rfl rfl rfl rfl) (pmk_p1 R_NoBack (pv 2) (by rfl)))) pss_nil)
        (pss_cons (ps_if (pt_cmpR (op_eqD hu) (pv 0) pe_int (nomark _)) (pss_one (ps_raise rfl (takes_of rfl rfl rfl rfl) (pmk_p1 R_NoBase (pv 2) (by rfl)))) pss_nil)
        (pss_cons (ps_if (pt_cmpR (op_eqD hu) (pv 0) pe_int (nomark _)) (pss_one (ps_raise rfl (takes_of rfl rfl rfl rfl) (pmk_p1 R_NoPaper (pv 2) (by rfl)))) pss_nil)
        (pss_cons (ps_if (pt_cmpR (op_eqD hu) (pv 0) pe_int (nomark _)) (pss_one (ps_raise rfl (takes_of rfl rfl rfl rfl) (pmk_fk RK_NoText (pk_cons (pv 1) pk_nil) (hr.mono (by decide)) pass_no (by rfl)))) pss_nil)
        (pss_cons (ps_if (pt_cmpR (op_eqD hu) (pv 0) pe_int (nomark _)) (pss_one (ps_raise rfl (takes_of rfl rfl rfl rfl) (pmk_f1 R1_NoText (pv 1) (hr.mono (by decide)) pass_no (by rfl)))) pss_nil)
        (pss_one (ps_if (pt_cmpR (op_eqD hu) (pv 0) pe_int (nomark _)) (pss_one (ps_raise rfl (takes_of rfl rfl rfl rfl) (pmk_f0 (r := 0) R_NoText (by decide) (hr.mono (by decide)) pass_no (by rfl)))) pss_nil))))))))))))), ?_⟩
  exact run_ev (N := N__law_second) (body := mb__law_second) h fun f => (ss_seq (ss_if (st_test (se_op se_var se_int os_eq)) (ss_raiseE se_var) ss_next)
        (ss_seq (ss_if (st_test (se_op se_var se_int os_eq)) (ss_raise1 (C := 178) (b := 0) se_var) ss_next)
        (ss_seq (ss_if (st_test (se_op se_var se_int os_eq)) (ss_raiseE se_var) ss_next)
        (ss_seq (ss_if (st_test (se_op se_var se_int os_eq)) (ss_raiseE se_var) ss_next)
        (ss_seq (ss_if (st_test (se_op se_var se_int os_eq)) (ss_raiseE se_var) ss_next)
        (ss_seq (ss_if (st_test (se_op se_var se_int os_eq)) (ss_raiseE se_var) ss_next)
        (ss_seq (ss_if (st_test (se_op se_var se_int os_eq)) (ss_raiseE se_var) ss_next)
        (ss_seq (ss_if (st_test (se_op se_var se_int os_eq)) (ss_raiseE se_var) ss_next)
        (ss_seq (ss_if (st_test (se_op se_var se_int os_eq)) (ss_raiseE se_var) ss_next)
        (ss_seq (ss_if (st_test (se_op se_var se_int os_eq)) (ss_raise1 (C := 284) (b := 1) se_var) ss_next)
        (ss_seq (ss_if (st_test (se_op se_var se_int os_eq)) (ss_raise1 (C := 284) (b := 1) se_var) ss_next)
        (ss_if (st_test (se_op se_var se_int os_eq)) (ss_raise0 (C := 284) (b := 1) (r := 0)) ss_next))))))))))))
theorem ok__law_caught {f : Addr} {fd : FuncData} (F : Fun K "_law_caught" "_law_caught" s__law_caught f fd) {f__law_first : Addr} {fd__law_first : FuncData} (G__law_first : FnOk P w K mg base (L2.CX P w) 1 f__law_first fd__law_first ["_law_which"] (spE K F__law_first 1)) (m__law_first : mg "_law_first" = some (.ref f__law_first)) (k__law_first : PySem.W.keepIn K (.ref f__law_first) = true) (b__law_first : Binds K fd__law_first ["_law_which"] []) {f__law_second : Addr} {fd__law_second : FuncData} (G__law_second : FnOk P w K mg base (L2.CX P w) 3 f__law_second fd__law_second ["_law_which", "_law_number", "_law_line"] (spE K F__law_second 3)) (m__law_second : mg "_law_second" = some (.ref f__law_second)) (k__law_second : PySem.W.keepIn K (.ref f__law_second) = true) (b__law_second : Binds K fd__law_second ["_law_which", "_law_number", "_law_line"] []) {f__law_third : Addr} {fd__law_third : FuncData} (G__law_third : FnOk P w K mg base (L2.CX P w) 1 f__law_third fd__law_third ["_law_which", "_law_line"] (spE K F__law_third 2)) (m__law_third : mg "_law_third" = some (.ref f__law_third)) (k__law_third : PySem.W.keepIn K (.ref f__law_third) = true) (b__law_third : Binds K fd__law_third ["_law_which", "_law_line"] []) (mc_CubeError : mg "CubeError" = some (.ref 24)) (hexm : ∀ C, exmL RS C = true → PySem.W.exmOne K (.ref C) (.ref 24) = some true): FnOk P w K mg base (L2.CX P w) 4 f fd ["_law_which", "_law_number", "_law_line"] (spE K F__law_caught 3) := by
  refine F.okX sc__law_caught spE_len (fun cdv A outer s H vs Q E hr h => ?_)
  have hu := hr.units
  have hu5 := hu5_of hr
  unfold F__law_caught at h
  refine ⟨_, (pss_cons (ps_set (i := 3) sc__law_caught.nd rfl (Or.inl rfl) pe_non)
        (pss_cons (ps_try_keep (i := 4) (j := 3) rfl rfl rfl sc__law_caught.nd rfl rfl ⟨by rfl, by decide, .inl mc_CubeError⟩ (fun _ _ _ => pss_one (ps_set (i := 3) sc__law_caught.nd rfl (Or.inl rfl) (pv 4))) (fun W pn xe tk po => (pss_cons (ps_expr (pe_callS G__law_first (hr.mono (by decide)) (by rfl) m__law_first k__law_first b__law_first (fun σ => passAt tk σ) (pa_cons (pv 0) pa_nil)))
        (pss_cons (ps_expr (pe_callS G__law_second (hr.mono (by decide)) (by rfl) m__law_second k__law_second b__law_second (fun σ => passAt tk σ) (pa_cons (pv 0) (pa_cons (pv 1) (pa_cons (pv 2) pa_nil)))))
        (pss_one (ps_expr (pe_callS G__law_third (hr.mono (by decide)) (by rfl) m__law_third k__law_third b__law_third (fun σ => passAt tk σ) (pa_cons (pv 0) (pa_cons (pv 2) pa_nil)))))))))
        (pss_one (ps_ret (pv 3))))), ?_⟩
  exact run_ev (N := N__law_caught) (body := mb__law_caught) h fun f => (ss_seq (ss_set se_non)
        (ss_seq (ss_try (fun C h => hexm _ h) fun f W => (ss_seq (ss_drop (se_call (sa_cons se_var sa_nil)))
        (ss_seq (ss_drop (se_call (sa_cons se_var (sa_cons se_var (sa_cons se_var sa_nil)))))
        (ss_drop (se_call (sa_cons se_var (sa_cons se_var sa_nil)))))))
        (ss_ret se_var)))
theorem ok_law {f : Addr} {fd : FuncData} (F : Fun K "law" "law" s_law f fd) {f__law_purse : Addr} {fd__law_purse : FuncData} (G__law_purse : FnOk P w K mg base CX0 1 f__law_purse fd__law_purse ["_law_script"] (spPurse K)) (m__law_purse : mg "_law_purse" = some (.ref f__law_purse)) (k__law_purse : PySem.W.keepIn K (.ref f__law_purse) = true) (b__law_purse : Binds K fd__law_purse ["_law_script"] []) {f__law_draw : Addr} {fd__law_draw : FuncData} (G__law_draw : FnOk P w K mg base CX0 1 f__law_draw fd__law_draw ["_law_purse_here", "_law_out_of"] spDraw) (m__law_draw : mg "_law_draw" = some (.ref f__law_draw)) (k__law_draw : PySem.W.keepIn K (.ref f__law_draw) = true) (b__law_draw : Binds K fd__law_draw ["_law_purse_here", "_law_out_of"] []) {f__law_marks : Addr} {fd__law_marks : FuncData} (G__law_marks : FnOk P w K mg base (L2.CX P w) 1 f__law_marks fd__law_marks ["_law_caught_here"] (spE K F__law_marks 1)) (m__law_marks : mg "_law_marks" = some (.ref f__law_marks)) (k__law_marks : PySem.W.keepIn K (.ref f__law_marks) = true) (b__law_marks : Binds K fd__law_marks ["_law_caught_here"] []) {f__law_caught : Addr} {fd__law_caught : FuncData} (G__law_caught : FnOk P w K mg base (L2.CX P w) 4 f__law_caught fd__law_caught ["_law_which", "_law_number", "_law_line"] (spE K F__law_caught 3)) (m__law_caught : mg "_law_caught" = some (.ref f__law_caught)) (k__law_caught : PySem.W.keepIn K (.ref f__law_caught) = true) (b__law_caught : Binds K fd__law_caught ["_law_which", "_law_number", "_law_line"] []) {f__law_due : Addr} {fd__law_due : FuncData} (G__law_due : FnOk P w K mg base (L2.CX P w) 1 f__law_due fd__law_due ["_law_which"] (spE K F__law_due 1)) (m__law_due : mg "_law_due" = some (.ref f__law_due)) (k__law_due : PySem.W.keepIn K (.ref f__law_due) = true) (b__law_due : Binds K fd__law_due ["_law_which"] []) (m_ValueError : mg "ValueError" = none) (m_int : mg "int" = none) (m_isinstance : mg "isinstance" = none) (m_range : mg "range" = none) (R1_NoStock : RaiF P w K mg base (L2.CX P w) 1 "NoStock" 178 (fldB 0) [] []) {ds_NoText : List Value} (R_NoText : RaiF P w K mg base (L2.CX P w) 1 "NoText" 284 (fldB 1) ds_NoText [.int 0]) (RK_NoText : RaiK P w K mg base (L2.CX P w) 1 "NoText" 284 (fldB 1)) (xf_NoStock : XfC K 178) (hno_NoStock : PySem.W.findIn K (.ref 178) "at" = some none) (xf_NoText : XfC K 284) (hno_NoText : PySem.W.findIn K (.ref 284) "row" = some none) (hkx : KX K (kxL RS CS)): FnAt P w K mg base f fd "_law_script" (spLaw K) := by
  refine fnAt_of (k := 4) F sc_law ⟨rfl, by decide, by decide⟩ (fun vs H Q E h => ?_) (fun cdv s H vs Q E hr h => ?_)
  · obtain ⟨a, ns, rfl, _⟩ := h
    rfl
  · obtain ⟨a, ns, rfl, hS, hT, hl, hQ⟩ := h
    have hu := hr.units
    have hu5 := hu5_of hr
    refine ⟨_, (pss_cons (ps_set (i := 1) sc_law.nd rfl (Or.inl rfl) (pe_call G__law_purse (hr.mono (by decide)) (by rfl) m__law_purse k__law_purse b__law_purse .nil pass0 (pa_cons (pv 0) pa_nil)))
        (pss_cons (ps_set (i := 2) sc_law.nd rfl (Or.inl rfl) (pe_lst pa_nil))
        (pss_cons (ps_for PassesOwn.never rfl (pi_range1 (by rfl) m_range (pa_cons pe_int pa_nil)) (pg_name (i := 3) sc_law.nd rfl (Or.inl rfl)) (pss_cons (ps_set (i := 4) sc_law.nd rfl (Or.inl rfl) (pe_call G__law_draw (hr.mono (by decide)) (by rfl) m__law_draw k__law_draw b__law_draw .nil pass0 (pa_cons (pv 1) (pa_cons pe_int pa_nil))))
        (pss_cons (ps_set (i := 5) sc_law.nd rfl (Or.inl rfl) (pe_call G__law_draw (hr.mono (by decide)) (by rfl) m__law_draw k__law_draw b__law_draw .nil pass0 (pa_cons (pv 1) (pa_cons (pe_op op_powX pe_int pe_int) pa_nil))))
        (pss_cons (ps_set (i := 6) sc_law.nd rfl (Or.inl rfl) (pe_op op_mulV pe_str (pe_call G__law_draw (hr.mono (by decide)) (by rfl) m__law_draw k__law_draw b__law_draw .nil pass0 (pa_cons (pv 1) (pa_cons pe_int pa_nil)))))
        (pss_cons (ps_set (i := 7) sc_law.nd rfl (Or.inl rfl) (pe_callS G__law_caught (hr.mono (by decide)) (by rfl) m__law_caught k__law_caught b__law_caught (fun σ => passAt takes0 σ) (pa_cons (pv 4) (pa_cons (pv 5) (pa_cons (pv 6) pa_nil)))))
        (pss_cons (ps_if (PW.pt (pw_or (pt_cmpR op_isU (pv 7) pe_non (nomark _)) (pw_or (pt_cmpR (op_neD hu) (pe_callS G__law_marks (hr.mono (by decide)) (by rfl) m__law_marks k__law_marks b__law_marks (fun σ => passAt takes0 σ) (pa_cons (pv 7) pa_nil)) (pe_lst (pa_cons (pe_callS G__law_due (hr.mono (by decide)) (by rfl) m__law_due k__law_due b__law_due (fun σ => passAt takes0 σ) (pa_cons (pv 4) pa_nil)) pa_nil)) (nomark _)) (pw_or1 (pt_not (pt_val (pe_callB call_isU (by rfl) m_isinstance (by decide +kernel) (pa_cons (pv 7) (pa_cons (pe_bltn (v := .ty "ValueError") (u := .type "ValueError") (by rfl) m_ValueError (by decide +kernel) rfl) pa_nil))))))))) (pss_one (ps_ret pe_bl)) pss_nil)
        (pss_cons (ps_if (pt_cmpR (op_inD hu5) (pv 4) (pe_lst (pa_cons pe_int (pa_cons pe_int (pa_cons pe_int pa_nil)))) (by rfl)) (pss_one (ps_expr (pe_bm PySem.F.plainAttrs_list PySem.F.slot_list_append PySem.F.type_list_append mt_append (pv 2) (pa_cons (pe_tupF (pa_cons (pv 7) (pa_cons (pe_ix ix_seq (pe_lst (pa_cons (pv 5) (pa_cons pe_int pa_nil))) (pe_callTy cr_intN (by rfl) m_int (by decide +kernel) (pa_cons (pe_cmpR (op_eqD hu) (pv 4) pe_int (nomark _)) pa_nil)) (fun _ _ => rfl)) pa_nil))) pa_nil)))) pss_nil)
        (pss_cons (ps_set (i := 8) sc_law.nd rfl (Or.inl rfl) (pe_mk (pmk_f1 R1_NoStock (pv 5) (hr.mono (by decide)) pass_no (by rfl))))
        (pss_one (ps_if (PW.pt (pw_or (pt_cmpR (op_neD hu) (pe_xf2 xf_NoStock hno_NoStock (pv 8)) (pv 5) (nomark _)) (pw_or (pt_cmpR (op_neD hu) (pe_xf2 xf_NoText hno_NoText (pe_mk (pmk_f0 (r := 0) R_NoText (by decide) (hr.mono (by decide)) pass_no (by rfl)))) pe_int (nomark _)) (pw_or1 (pt_cmpR (op_neD hu) (pe_xf2 xf_NoText hno_NoText (pe_mk (pmk_fk RK_NoText (pk_cons (pv 5) pk_nil) (hr.mono (by decide)) pass_no (by rfl)))) (pv 5) (nomark _)))))) (pss_one (ps_ret pe_bl)) pss_nil))))))))))
        (pss_one (ps_ret (pe_cmpR (op_eqD hu) (pe_lc (te := (tVar 7)) (tt := (tTest (tOp (rNeD K) (tXf2 284 "row" (tVar 7)) (tVar 9)))) (own := [("_law_caught_here", 7), ("_law_due_here", 9)]) (g := (gTup K 2 (gCons (gName 7) (gCons (gName 9) gNil)))) rfl sc_law.nd (pi_any (pv 2)) (blkOk_by (own := [("_law_caught_here", 7), ("_law_due_here", 9)]) (N := N_law) (sc := defScope s_law) (by decide +kernel)) (fun _ _ _ _ _ => (pg_tup rfl (pgs_cons (pg_name (i := 7) sc_law.nd rfl (Or.inl rfl)) (pgs_cons (pg_name (i := 9) sc_law.nd rfl (Or.inl rfl)) pgs_nil)))) (fun _ _ _ _ _ => (pts_one (pt_cmpR (op_neD hu) (pe_xf2 xf_NoText hno_NoText (pv 7)) (pv 9) (nomark _)))) (fun _ _ _ _ _ => (pv 7))) (pe_lst pa_nil) (nomark _))))))), ?_⟩
    exact run_lawE (k := 8) (body := mb_law) hS hT hl rfl (fun f => (ss_seq (ss_set (se_lst sa_nil))
        (ss_seq (ss_for (si_range1 (sa_cons se_int sa_nil)) sg_name (ss_seq (ss_set (se_draw (sa_cons se_var (sa_cons se_int sa_nil))))
        (ss_seq (ss_set (se_draw (sa_cons se_var (sa_cons (se_op se_int se_int os_pow) sa_nil))))
        (ss_seq (ss_set (se_op se_str (se_draw (sa_cons se_var (sa_cons se_int sa_nil))) os_mulV))
        (ss_seq (ss_set (se_call (sa_cons se_var (sa_cons se_var (sa_cons se_var sa_nil)))))
        (ss_seq (ss_if (st_or (st_test (se_op se_var se_non os_is)) (st_or (st_test (se_op (se_call (sa_cons se_var sa_nil)) (se_lst (sa_cons (se_call (sa_cons se_var sa_nil)) sa_nil)) os_ne)) (st_not (st_B (se_cb (sa_cons se_var (sa_cons se_v sa_nil)) (os_isi hkx)))))) (ss_ret se_bl) ss_next)
        (ss_seq (ss_if (st_test (se_op se_var (se_lst (sa_cons se_int (sa_cons se_int (sa_cons se_int sa_nil)))) os_in)) (ss_drop (se_lm lm_app (sa_cons (se_tup (sa_cons se_var (sa_cons (se_pick (sa_cons se_var (sa_cons se_int sa_nil)) (se_cb (sa_cons (se_op se_var se_int os_eq) sa_nil) os_intN)) sa_nil))) sa_nil))) ss_next)
        (ss_seq (ss_set (se_mk1f (C := 178) (b := 0) se_var))
        (ss_if (st_or (st_test (se_op (se_xf se_var) se_var os_ne)) (st_or (st_test (se_op (se_xf (se_mk0f (C := 284) (b := 1) (r := 0))) se_int os_ne)) (st_test (se_op (se_xf (se_mk1f (C := 284) (b := 1) se_var)) se_var os_ne)))) (ss_ret se_bl) ss_next)))))))))
        (ss_ret (se_op (se_lc (si_seq se_var) (sg_tup (sgs_cons sg_name (sgs_cons sg_name sgs_nil))) (st_test (se_op (se_xf se_var) se_var os_ne)) se_var (gw_two (by decide))) (se_lst sa_nil) os_eq))))) law_holds hQ
end
/-! ### what the top has written -/
theorem all_mk {l : PySem.W.OpenLaw} {w : World} {K : PySem.W.Frag} {h : Heap} {mg : Str → Option Value} {t___name__ : Tok} {fa f0 f1 f2 f3 f4 f5 f6 f7 f8  : Addr} (X : K.In h) (G : h.Ns mainGlobals mg) (hfa : mg "law" = some (.ref fa))
    {od0 an0 od1 an1 od2 an2 od3 an3 od4 an4 od5 an5 od6 an6 od7 an7 od8 an8 : Option Addr} {sl0 sl1 sl2 sl3 sl4 sl5 sl6 sl7 sl8 : Array (Option Value)} {oc0 kV0 dc0 pm0 cd0 ct0 oc1 kV1 dc1 pm1 cd1 ct1 oc2 kV2 dc2 pm2 cd2 ct2 oc3 kV3 dc3 pm3 cd3 ct3 oc4 kV4 dc4 pm4 cd4 ct4 oc5 kV5 dc5 pm5 cd5 ct5 oc6 kV6 dc6 pm6 cd6 ct6 oc7 kV7 dc7 pm7 cd7 ct7 oc8 kV8 dc8 pm8 cd8 ct8 : Value} {fXNoStock ccXNoStock cdXNoStock : Addr} {odXNoStock anXNoStock cldXNoStock : Option Addr} {slXNoStock cslXNoStock : Array (Option Value)} {ocXNoStock kVXNoStock dcXNoStock pmXNoStock ctXNoStock clXNoStock : Value} {fXNoText ccXNoText cdXNoText TXNoText : Addr} {odXNoText anXNoText cldXNoText : Option Addr} {slXNoText cslXNoText : Array (Option Value)} {ocXNoText kVXNoText dcXNoText pmXNoText ctXNoText clXNoText : Value}
    (a0 : PySem.W.nsIn K mainGlobals "_law_purse" = some (some (.ref f0)))
    (l0 : K.lookup f0 = some ⟨oc0, od0, .func (PySem.W.fnOf "_law_purse" "_law_purse" (defArgs s__law_purse) (defBody s__law_purse) (defScope s__law_purse) .none kV0 dc0 pm0 an0 cd0 ct0), sl0⟩)
    (c0 : PySem.W.codeIn K cd0 "_law_purse" = true)
    (k0 : PySem.W.keepIn K (.ref f0) = true)
    (a1 : PySem.W.nsIn K mainGlobals "_law_draw" = some (some (.ref f1)))
    (l1 : K.lookup f1 = some ⟨oc1, od1, .func (PySem.W.fnOf "_law_draw" "_law_draw" (defArgs s__law_draw) (defBody s__law_draw) (defScope s__law_draw) .none kV1 dc1 pm1 an1 cd1 ct1), sl1⟩)
    (c1 : PySem.W.codeIn K cd1 "_law_draw" = true)
    (k1 : PySem.W.keepIn K (.ref f1) = true)
    (a2 : PySem.W.nsIn K mainGlobals "_law_marks" = some (some (.ref f2)))
    (l2 : K.lookup f2 = some ⟨oc2, od2, .func (PySem.W.fnOf "_law_marks" "_law_marks" (defArgs s__law_marks) (defBody s__law_marks) (defScope s__law_marks) .none kV2 dc2 pm2 an2 cd2 ct2), sl2⟩)
    (c2 : PySem.W.codeIn K cd2 "_law_marks" = true)
    (k2 : PySem.W.keepIn K (.ref f2) = true)
    (a3 : PySem.W.nsIn K mainGlobals "_law_first" = some (some (.ref f3)))
    (l3 : K.lookup f3 = some ⟨oc3, od3, .func (PySem.W.fnOf "_law_first" "_law_first" (defArgs s__law_first) (defBody s__law_first) (defScope s__law_first) .none kV3 dc3 pm3 an3 cd3 ct3), sl3⟩)
    (c3 : PySem.W.codeIn K cd3 "_law_first" = true)
    (k3 : PySem.W.keepIn K (.ref f3) = true)
    (a4 : PySem.W.nsIn K mainGlobals "_law_second" = some (some (.ref f4)))
    (l4 : K.lookup f4 = some ⟨oc4, od4, .func (PySem.W.fnOf "_law_second" "_law_second" (defArgs s__law_second) (defBody s__law_second) (defScope s__law_second) .none kV4 dc4 pm4 an4 cd4 ct4), sl4⟩)
    (c4 : PySem.W.codeIn K cd4 "_law_second" = true)
    (k4 : PySem.W.keepIn K (.ref f4) = true)
    (a5 : PySem.W.nsIn K mainGlobals "_law_third" = some (some (.ref f5)))
    (l5 : K.lookup f5 = some ⟨oc5, od5, .func (PySem.W.fnOf "_law_third" "_law_third" (defArgs s__law_third) (defBody s__law_third) (defScope s__law_third) .none kV5 dc5 pm5 an5 cd5 ct5), sl5⟩)
    (c5 : PySem.W.codeIn K cd5 "_law_third" = true)
    (k5 : PySem.W.keepIn K (.ref f5) = true)
    (a6 : PySem.W.nsIn K mainGlobals "_law_caught" = some (some (.ref f6)))
    (l6 : K.lookup f6 = some ⟨oc6, od6, .func (PySem.W.fnOf "_law_caught" "_law_caught" (defArgs s__law_caught) (defBody s__law_caught) (defScope s__law_caught) .none kV6 dc6 pm6 an6 cd6 ct6), sl6⟩)
    (c6 : PySem.W.codeIn K cd6 "_law_caught" = true)
    (k6 : PySem.W.keepIn K (.ref f6) = true)
    (a7 : PySem.W.nsIn K mainGlobals "_law_due" = some (some (.ref f7)))
    (l7 : K.lookup f7 = some ⟨oc7, od7, .func (PySem.W.fnOf "_law_due" "_law_due" (defArgs s__law_due) (defBody s__law_due) (defScope s__law_due) .none kV7 dc7 pm7 an7 cd7 ct7), sl7⟩)
    (c7 : PySem.W.codeIn K cd7 "_law_due" = true)
    (k7 : PySem.W.keepIn K (.ref f7) = true)
    (a8 : PySem.W.nsIn K mainGlobals "law" = some (some (.ref f8)))
    (l8 : K.lookup f8 = some ⟨oc8, od8, .func (PySem.W.fnOf "law" "law" (defArgs s_law) (defBody s_law) (defScope s_law) .none kV8 dc8 pm8 an8 cd8 ct8), sl8⟩)
    (c8 : PySem.W.codeIn K cd8 "law" = true)
    (k8 : PySem.W.keepIn K (.ref f8) = true)
    (z_ValueError : PySem.W.nsIn K mainGlobals "ValueError" = some none)
    (z_abs : PySem.W.nsIn K mainGlobals "abs" = some none)
    (z_int : PySem.W.nsIn K mainGlobals "int" = some none)
    (z_isinstance : PySem.W.nsIn K mainGlobals "isinstance" = some none)
    (z_len : PySem.W.nsIn K mainGlobals "len" = some none)
    (z_list : PySem.W.nsIn K mainGlobals "list" = some none)
    (z_range : PySem.W.nsIn K mainGlobals "range" = some none)
    (ax_NoStock : PySem.W.findIn K (.ref 178) "__init__" = some (some (.ref fXNoStock)))
    (lx_NoStock : K.lookup fXNoStock = some ⟨ocXNoStock, odXNoStock, .func (PySem.W.fnX "__init__" "NoStock.__init__" (defArgs s_NoStock_init) (defBody s_NoStock_init) (defScope s_NoStock_init) [("__class__", ccXNoStock)] .none kVXNoStock dcXNoStock pmXNoStock anXNoStock (.ref cdXNoStock) ctXNoStock), slXNoStock⟩)
    (cx_NoStock : PySem.W.codeIn K (.ref cdXNoStock) "NoStock.__init__" = true)
    (ex_NoStock : K.lookup ccXNoStock = some ⟨clXNoStock, cldXNoStock, .cell (some (.ref 178)), cslXNoStock⟩)
    (zs_NoStock : PySem.W.nsIn K mainGlobals "super" = some none)
    (fnx_NoStock : PySem.W.typeIn K (.ref fXNoStock) = some (.type "function"))
    (ox_NoStock : oexB K 178 = true)
    (sx_NoStock : supB K 178 cdXNoStock l.prog.main.file = true)
    (hx_NoStock : PySem.W.findIn K (.ref 178) "at" = some none)
    (px_NoStock : (l.prog.main.scope.names.lookup ("super" : Str)).isSome = false)
    (ax_NoText : PySem.W.findIn K (.ref 284) "__init__" = some (some (.ref fXNoText)))
    (lx_NoText : K.lookup fXNoText = some ⟨ocXNoText, odXNoText, .func (PySem.W.fnX "__init__" "NoText.__init__" (defArgs s_NoText_init) (defBody s_NoText_init) (defScope s_NoText_init) [("__class__", ccXNoText)] (.ref TXNoText) kVXNoText dcXNoText pmXNoText anXNoText (.ref cdXNoText) ctXNoText), slXNoText⟩)
    (cx_NoText : PySem.W.codeIn K (.ref cdXNoText) "NoText.__init__" = true)
    (ex_NoText : K.lookup ccXNoText = some ⟨clXNoText, cldXNoText, .cell (some (.ref 284)), cslXNoText⟩)
    (zs_NoText : PySem.W.nsIn K mainGlobals "super" = some none)
    (tx_NoText : dflB K TXNoText [.int 0] = true)
    (fnx_NoText : PySem.W.typeIn K (.ref fXNoText) = some (.type "function"))
    (ox_NoText : oexB K 284 = true)
    (sx_NoText : supB K 284 cdXNoText l.prog.main.file = true)
    (hx_NoText : PySem.W.findIn K (.ref 284) "row" = some none)
    (px_NoText : (l.prog.main.scope.names.lookup ("super" : Str)).isSome = false)
    (a_CubeError : PySem.W.nsIn K mainGlobals "CubeError" = some (some (.ref 24)))
    (a_NoBack : PySem.W.nsIn K mainGlobals "NoBack" = some (some (.ref 238)))
    (a_NoBase : PySem.W.nsIn K mainGlobals "NoBase" = some (some (.ref 250)))
    (a_NoChange : PySem.W.nsIn K mainGlobals "NoChange" = some (some (.ref 157)))
    (a_NoCounts : PySem.W.nsIn K mainGlobals "NoCounts" = some (some (.ref 85)))
    (a_NoCube : PySem.W.nsIn K mainGlobals "NoCube" = some (some (.ref 145)))
    (a_NoCubes : PySem.W.nsIn K mainGlobals "NoCubes" = some (some (.ref 121)))
    (a_NoFit : PySem.W.nsIn K mainGlobals "NoFit" = some (some (.ref 109)))
    (a_NoName : PySem.W.nsIn K mainGlobals "NoName" = some (some (.ref 202)))
    (a_NoNumber : PySem.W.nsIn K mainGlobals "NoNumber" = some (some (.ref 97)))
    (a_NoPaints : PySem.W.nsIn K mainGlobals "NoPaints" = some (some (.ref 61)))
    (a_NoPalette : PySem.W.nsIn K mainGlobals "NoPalette" = some (some (.ref 73)))
    (a_NoPaper : PySem.W.nsIn K mainGlobals "NoPaper" = some (some (.ref 262)))
    (a_NoPlace : PySem.W.nsIn K mainGlobals "NoPlace" = some (some (.ref 226)))
    (a_NoRow : PySem.W.nsIn K mainGlobals "NoRow" = some (some (.ref 190)))
    (a_NoSix : PySem.W.nsIn K mainGlobals "NoSix" = some (some (.ref 133)))
    (a_NoStock : PySem.W.nsIn K mainGlobals "NoStock" = some (some (.ref 178)))
    (a_NoText : PySem.W.nsIn K mainGlobals "NoText" = some (some (.ref 284)))
    (a_NoTurn : PySem.W.nsIn K mainGlobals "NoTurn" = some (some (.ref 37)))
    (a_NoWord : PySem.W.nsIn K mainGlobals "NoWord" = some (some (.ref 49)))
    (a_TooMany : PySem.W.nsIn K mainGlobals "TooMany" = some (some (.ref 214)))
    (hrais : raisB K RSn 24 = true)
    (hexmb : exmB K RS 24 = true)
    (hkxb : kxB K RS CS = true)
    (a___name__ : PySem.W.nsIn K mainGlobals "__name__" = some (some (.str "law_thirtycubes_k27_refusals_made_by_hand" t___name__)))
    (xfb_NoStock : xfB K 178 = true)
    (xfb_NoText : xfB K 284 = true) :
    ∃ fd : FuncData, (∀ (s : Shared) (v : Value), BindsTo s fd ⟨[v], []⟩ [("_law_script", v)]) ∧ ∀ base : Heap, K.In base → base.Ns mainGlobals mg → FnAt l.prog w K mg base fa fd "_law_script" (spLaw K) := by
  have e := hfa.symm.trans (PySem.W.mg_of X G a8)
  cases e
  have F0 := fun_mk (st := s__law_purse) l0 c0 k0
  have b0 := F0.binds (ps := ["_law_script"]) fun _ _ _ _ _ _ us hl => match us, hl with | [_], _ => rfl
  have M0 := PySem.W.mg_of X G a0
  have F1 := fun_mk (st := s__law_draw) l1 c1 k1
  have b1 := F1.binds (ps := ["_law_purse_here", "_law_out_of"]) fun _ _ _ _ _ _ us hl => match us, hl with | [_, _], _ => rfl
  have M1 := PySem.W.mg_of X G a1
  have F2 := fun_mk (st := s__law_marks) l2 c2 k2
  have b2 := F2.binds (ps := ["_law_caught_here"]) fun _ _ _ _ _ _ us hl => match us, hl with | [_], _ => rfl
  have M2 := PySem.W.mg_of X G a2
  have F3 := fun_mk (st := s__law_first) l3 c3 k3
  have b3 := F3.binds (ps := ["_law_which"]) fun _ _ _ _ _ _ us hl => match us, hl with | [_], _ => rfl
  have M3 := PySem.W.mg_of X G a3
  have F4 := fun_mk (st := s__law_second) l4 c4 k4
  have b4 := F4.binds (ps := ["_law_which", "_law_number", "_law_line"]) fun _ _ _ _ _ _ us hl => match us, hl with | [_, _, _], _ => rfl
  have M4 := PySem.W.mg_of X G a4
  have F5 := fun_mk (st := s__law_third) l5 c5 k5
  have b5 := F5.binds (ps := ["_law_which", "_law_line"]) fun _ _ _ _ _ _ us hl => match us, hl with | [_, _], _ => rfl
  have M5 := PySem.W.mg_of X G a5
  have F6 := fun_mk (st := s__law_caught) l6 c6 k6
  have b6 := F6.binds (ps := ["_law_which", "_law_number", "_law_line"]) fun _ _ _ _ _ _ us hl => match us, hl with | [_, _, _], _ => rfl
  have M6 := PySem.W.mg_of X G a6
  have F7 := fun_mk (st := s__law_due) l7 c7 k7
  have b7 := F7.binds (ps := ["_law_which"]) fun _ _ _ _ _ _ us hl => match us, hl with | [_], _ => rfl
  have M7 := PySem.W.mg_of X G a7
  have F8 := fun_mk (st := s_law) l8 c8 k8
  have b8 := F8.binds (ps := ["_law_script"]) fun _ _ _ _ _ _ us hl => match us, hl with | [_], _ => rfl
  have M8 := PySem.W.mg_of X G a8
  have m_ValueError := PySem.W.mg_none_of X G z_ValueError
  have m_abs := PySem.W.mg_none_of X G z_abs
  have m_int := PySem.W.mg_none_of X G z_int
  have m_isinstance := PySem.W.mg_none_of X G z_isinstance
  have m_len := PySem.W.mg_none_of X G z_len
  have m_list := PySem.W.mg_none_of X G z_list
  have m_range := PySem.W.mg_none_of X G z_range
  have mc_CubeError := PySem.W.mg_of X G a_CubeError
  have mc_NoBack := PySem.W.mg_of X G a_NoBack
  have mc_NoBase := PySem.W.mg_of X G a_NoBase
  have mc_NoChange := PySem.W.mg_of X G a_NoChange
  have mc_NoCounts := PySem.W.mg_of X G a_NoCounts
  have mc_NoCube := PySem.W.mg_of X G a_NoCube
  have mc_NoCubes := PySem.W.mg_of X G a_NoCubes
  have mc_NoFit := PySem.W.mg_of X G a_NoFit
  have mc_NoName := PySem.W.mg_of X G a_NoName
  have mc_NoNumber := PySem.W.mg_of X G a_NoNumber
  have mc_NoPaints := PySem.W.mg_of X G a_NoPaints
  have mc_NoPalette := PySem.W.mg_of X G a_NoPalette
  have mc_NoPaper := PySem.W.mg_of X G a_NoPaper
  have mc_NoPlace := PySem.W.mg_of X G a_NoPlace
  have mc_NoRow := PySem.W.mg_of X G a_NoRow
  have mc_NoSix := PySem.W.mg_of X G a_NoSix
  have mc_NoStock := PySem.W.mg_of X G a_NoStock
  have mc_NoText := PySem.W.mg_of X G a_NoText
  have mc_NoTurn := PySem.W.mg_of X G a_NoTurn
  have mc_NoWord := PySem.W.mg_of X G a_NoWord
  have mc_TooMany := PySem.W.mg_of X G a_TooMany
  have hexm := exmB_of hexmb
  have hkx := kx_of hkxb
  have R_NoBack := raisB_at hrais rfl mc_NoBack
  have R_NoBase := raisB_at hrais rfl mc_NoBase
  have R_NoChange := raisB_at hrais rfl mc_NoChange
  have R_NoCounts := raisB_at hrais rfl mc_NoCounts
  have R_NoCube := raisB_at hrais rfl mc_NoCube
  have R_NoCubes := raisB_at hrais rfl mc_NoCubes
  have R_NoFit := raisB_at hrais rfl mc_NoFit
  have R_NoName := raisB_at hrais rfl mc_NoName
  have R_NoNumber := raisB_at hrais rfl mc_NoNumber
  have R_NoPaints := raisB_at hrais rfl mc_NoPaints
  have R_NoPalette := raisB_at hrais rfl mc_NoPalette
  have R_NoPaper := raisB_at hrais rfl mc_NoPaper
  have R_NoPlace := raisB_at hrais rfl mc_NoPlace
  have R_NoRow := raisB_at hrais rfl mc_NoRow
  have R_NoSix := raisB_at hrais rfl mc_NoSix
  have R_NoTurn := raisB_at hrais rfl mc_NoTurn
  have R_NoWord := raisB_at hrais rfl mc_NoWord
  have R_TooMany := raisB_at hrais rfl mc_TooMany
  have mc___name__ := PySem.W.mg_of X G a___name__
  have xf_NoStock := xfB_ok xfb_NoStock
  have xf_NoText := xfB_ok xfb_NoText
  refine ⟨PySem.W.fnOf "law" "law" (defArgs s_law) (defBody s_law) (defScope s_law) .none kV8 dc8 pm8 an8 cd8 ct8, fun s v => .of_eq rfl, fun base _ _ => ?_⟩
  have FXNoStock : FunS K s_NoStock_init "__init__" "NoStock.__init__" fXNoStock ccXNoStock 178 cdXNoStock _ := ⟨⟨_, _, _, _, _, _, _, _, _, rfl, lx_NoStock⟩, cx_NoStock, ⟨_, _, _, ex_NoStock⟩⟩
  have SXNoStock : SupOk l.prog K mg s_NoStock_init 178 cdXNoStock := supB_ok sx_NoStock px_NoStock (PySem.W.mg_none_of X G zs_NoStock) (by decide +kernel) (by decide +kernel) (by decide +kernel) ⟨_, rfl, rfl⟩ rfl
  have GXNoStock := ok_NoStock_init (P := l.prog) (w := w) (mg := mg) (base := base) FXNoStock (oexB_ok ox_NoStock) SXNoStock hx_NoStock
  have R1_NoStock : RaiF l.prog w K mg base (L2.CX l.prog w) 1 "NoStock" 178 (fldB 0) [] [] := ⟨oexB_ok ox_NoStock, mc_NoStock, ⟨fXNoStock, _, ax_NoStock, fnx_NoStock, GXNoStock, (Binds.all fun us hl => match us, hl with | [_, _], _ => rfl)⟩, .nil⟩
  have FXNoText : FunS K s_NoText_init "__init__" "NoText.__init__" fXNoText ccXNoText 284 cdXNoText _ := ⟨⟨_, _, _, _, _, _, _, _, _, rfl, lx_NoText⟩, cx_NoText, ⟨_, _, _, ex_NoText⟩⟩
  have SXNoText : SupOk l.prog K mg s_NoText_init 284 cdXNoText := supB_ok sx_NoText px_NoText (PySem.W.mg_none_of X G zs_NoText) (by decide +kernel) (by decide +kernel) (by decide +kernel) ⟨_, rfl, rfl⟩ rfl
  have GXNoText := ok_NoText_init (P := l.prog) (w := w) (mg := mg) (base := base) FXNoText (oexB_ok ox_NoText) SXNoText hx_NoText
  obtain ⟨ds_NoText, bXNoText, vXNoText⟩ := bindsX1 (x := "__init__") (qual := "NoText.__init__") (params := defArgs s_NoText_init) (body := defBody s_NoText_init) (scope := defScope s_NoText_init) (cl := [("__class__", ccXNoText)]) (ps := ["self", "row"]) (kV := kVXNoText) (doc := dcXNoText) (pm := pmXNoText) (an := anXNoText) (cdv := .ref cdXNoText) (ct := ctXNoText) tx_NoText rfl rfl (fun _ _ => ⟨_, rfl, rfl⟩)
  have R_NoText : RaiF l.prog w K mg base (L2.CX l.prog w) 1 "NoText" 284 (fldB 1) ds_NoText [.int 0] := ⟨oexB_ok ox_NoText, mc_NoText, ⟨fXNoText, _, ax_NoText, fnx_NoText, GXNoText, bXNoText⟩, vXNoText⟩
  have bANoText := bindsXA (fld := fldB 1) (x := "__init__") (qual := "NoText.__init__") (params := defArgs s_NoText_init) (body := defBody s_NoText_init) (scope := defScope s_NoText_init) (cl := [("__class__", ccXNoText)]) (kV := kVXNoText) (doc := dcXNoText) (pm := pmXNoText) (an := anXNoText) (cdv := .ref cdXNoText) (ct := ctXNoText) tx_NoText rfl (fun _ _ _ => ⟨_, rfl, rfl⟩)
  have R1_NoText : RaiF l.prog w K mg base (L2.CX l.prog w) 1 "NoText" 284 (fldB 1) [] [] := ⟨oexB_ok ox_NoText, mc_NoText, ⟨fXNoText, _, ax_NoText, fnx_NoText, GXNoText, bANoText⟩, .nil⟩
  have bKNoText := bindsXK (fld := fldB 1) (x := "__init__") (qual := "NoText.__init__") (params := defArgs s_NoText_init) (body := defBody s_NoText_init) (scope := defScope s_NoText_init) (cl := [("__class__", ccXNoText)]) (kV := kVXNoText) (doc := dcXNoText) (pm := pmXNoText) (an := anXNoText) (cdv := .ref cdXNoText) (ct := ctXNoText) tx_NoText rfl (fun _ _ _ => ⟨_, rfl, rfl⟩)
  have RK_NoText : RaiK l.prog w K mg base (L2.CX l.prog w) 1 "NoText" 284 (fldB 1) := ⟨oexB_ok ox_NoText, mc_NoText, ⟨fXNoText, _, ax_NoText, fnx_NoText, GXNoText, bKNoText⟩⟩
  have G0 := ok_purse (P := l.prog) (w := w) (mg := mg) (base := base) F0 m_range m_len m_abs
  have G1 := ok_draw (P := l.prog) (w := w) (mg := mg) (base := base) F1 m_len
  have G2 := ok__law_marks (P := l.prog) (w := w) (mg := mg) (base := base) F2 m_isinstance m_len m_range mc_NoBack mc_NoBase mc_NoChange mc_NoCounts mc_NoCube mc_NoCubes mc_NoFit mc_NoName mc_NoNumber mc_NoPaints mc_NoPalette mc_NoPaper mc_NoPlace mc_NoRow mc_NoSix mc_NoStock mc_NoText mc_NoTurn mc_NoWord mc_TooMany hkx
  have G3 := ok__law_first (P := l.prog) (w := w) (mg := mg) (base := base) F3 R_NoCounts R_NoCube R_NoCubes R_NoFit R_NoNumber R_NoPaints R_NoPalette R_NoSix R_NoTurn R_NoWord
  have G4 := ok__law_second (P := l.prog) (w := w) (mg := mg) (base := base) F4 R_NoBack R_NoBase R_NoChange R_NoName R_NoPaper R_NoPlace R_NoRow R1_NoStock R_NoText R1_NoText RK_NoText R_TooMany
  have G5 := ok__law_third (P := l.prog) (w := w) (mg := mg) (base := base) F5 R_NoBack R_NoCubes R_NoPaints R_NoPaper R_NoRow R_NoTurn R_NoWord
  have G6 := ok__law_caught (P := l.prog) (w := w) (mg := mg) (base := base) F6 G3 M3 k3 b3 G4 M4 k4 b4 G5 M5 k5 b5 mc_CubeError hexm
  have G7 := ok__law_due (P := l.prog) (w := w) (mg := mg) (base := base) F7 m_list m_range
  have G8 := ok_law (P := l.prog) (w := w) (mg := mg) (base := base) F8 G0 M0 k0 b0 G1 M1 k1 b1 G2 M2 k2 b2 G6 M6 k6 b6 G7 M7 k7 b7 m_ValueError m_int m_isinstance m_range R1_NoStock R_NoText RK_NoText xf_NoStock hx_NoStock xf_NoText hx_NoText hkx
  exact G8
end My
open PySem PySem.W PyProof.Rows
set_option maxRecDepth 100000 in
set_option maxHeartbeats 0 in
theorem PySem.Challenge.cw_thirtycubes_k27_refusals_made_by_hand_holds : PySem.Challenge.rw_thirtycubes_k27_refusals_made_by_hand.Holds := by
  w_on; o_law; k_head; (case hw => w_witness2)
  k_fill
  refine Dl.walk_at (l := PySem.Challenge.rw_thirtycubes_k27_refusals_made_by_hand) (n := 63) (x := "_law_script") (sp := fun w => My.spLaw _) rfl (by decide) rfl (fun w h Y => PySem.W.kIn_of Y) ?F (fun _ _ a ns hl hO hS => ⟨a, ns, rfl, hS, Dl.TF.only hO, hl, fun _ => rfl⟩)
  case F =>
    intro w mg fa h KX G hmg
    refine' My.all_mk KX G hmg ?a0 ?l0 ?c0 ?k0 ?a1 ?l1 ?c1 ?k1 ?a2 ?l2 ?c2 ?k2 ?a3 ?l3 ?c3 ?k3 ?a4 ?l4 ?c4 ?k4 ?a5 ?l5 ?c5 ?k5 ?a6 ?l6 ?c6 ?k6 ?a7 ?l7 ?c7 ?k7 ?a8 ?l8 ?c8 ?k8 ?z_ValueError ?z_abs ?z_int ?z_isinstance ?z_len ?z_list ?z_range ?ax_NoStock ?lx_NoStock ?cx_NoStock ?ex_NoStock ?zs_NoStock ?fnx_NoStock ?ox_NoStock ?sx_NoStock ?hx_NoStock ?px_NoStock ?ax_NoText ?lx_NoText ?cx_NoText ?ex_NoText ?zs_NoText ?tx_NoText ?fnx_NoText ?ox_NoText ?sx_NoText ?hx_NoText ?px_NoText ?a_CubeError ?a_NoBack ?a_NoBase ?a_NoChange ?a_NoCounts ?a_NoCube ?a_NoCubes ?a_NoFit ?a_NoName ?a_NoNumber ?a_NoPaints ?a_NoPalette ?a_NoPaper ?a_NoPlace ?a_NoRow ?a_NoSix ?a_NoStock ?a_NoText ?a_NoTurn ?a_NoWord ?a_TooMany ?hrais ?hexmb ?hkxb ?a___name__ ?xfb_NoStock ?xfb_NoText
    (case a0 => k_is)
    (case l0 => k_is)
    (case c0 => k_is)
    (case k0 => k_is)
    (case a1 => k_is)
    (case l1 => k_is)
    (case c1 => k_is)
    (case k1 => k_is)
    (case a2 => k_is)
    (case l2 => k_is)
    (case c2 => k_is)
    (case k2 => k_is)
    (case a3 => k_is)
    (case l3 => k_is)
    (case c3 => k_is)
    (case k3 => k_is)
    (case a4 => k_is)
    (case l4 => k_is)
    (case c4 => k_is)
    (case k4 => k_is)
    (case a5 => k_is)
    (case l5 => k_is)
    (case c5 => k_is)
    (case k5 => k_is)
    (case a6 => k_is)
    (case l6 => k_is)
    (case c6 => k_is)
    (case k6 => k_is)
    (case a7 => k_is)
    (case l7 => k_is)
    (case c7 => k_is)
    (case k7 => k_is)
    (case a8 => k_is)
    (case l8 => k_is)
    (case c8 => k_is)
    (case k8 => k_is)
    (case z_ValueError => k_is)
    (case z_abs => k_is)
    (case z_int => k_is)
    (case z_isinstance => k_is)
    (case z_len => k_is)
    (case z_list => k_is)
    (case z_range => k_is)
    (case ax_NoStock => k_is)
    (case lx_NoStock => k_is)
    (case cx_NoStock => k_is)
    (case ex_NoStock => k_is)
    (case zs_NoStock => k_is)
    (case ax_NoText => k_is)
    (case lx_NoText => k_is)
    (case cx_NoText => k_is)
    (case ex_NoText => k_is)
    (case zs_NoText => k_is)
    (case a_CubeError => k_is)
    (case a_NoBack => k_is)
    (case a_NoBase => k_is)
    (case a_NoChange => k_is)
    (case a_NoCounts => k_is)
    (case a_NoCube => k_is)
    (case a_NoCubes => k_is)
    (case a_NoFit => k_is)
    (case a_NoName => k_is)
    (case a_NoNumber => k_is)
    (case a_NoPaints => k_is)
    (case a_NoPalette => k_is)
    (case a_NoPaper => k_is)
    (case a_NoPlace => k_is)
    (case a_NoRow => k_is)
    (case a_NoSix => k_is)
    (case a_NoStock => k_is)
    (case a_NoText => k_is)
    (case a_NoTurn => k_is)
    (case a_NoWord => k_is)
    (case a_TooMany => k_is)
    (case a___name__ => k_is)
    (case fnx_NoStock => kernel_rfl)
    (case ox_NoStock => kernel_rfl)
    (case sx_NoStock => kernel_rfl)
    (case hx_NoStock => kernel_rfl)
    (case px_NoStock => kernel_rfl)
    (case tx_NoText => kernel_rfl)
    (case fnx_NoText => kernel_rfl)
    (case ox_NoText => kernel_rfl)
    (case sx_NoText => kernel_rfl)
    (case hx_NoText => kernel_rfl)
    (case px_NoText => kernel_rfl)
    (case hrais => kernel_rfl)
    (case hexmb => kernel_rfl)
    (case hkxb => kernel_rfl)
    (case xfb_NoStock => kernel_rfl)
    (case xfb_NoText => kernel_rfl)

