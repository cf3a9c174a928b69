import PyProof.Rows.All
import Wide.All
import OpenK.AllK
import Wide.FinOn
import HandS.ForMost
import HandS.Wide
import HandS.WideBits
import HandS.Conv
import HandS.Strs
import HandS.SortInts
import HandS.Style
import HandS.WordsExc
import KE.DataEq
import HandS.Lambda
import HandS.TupAny
import KE.SortLaws
import HandS.SetFor
import HandS.Rev
import HandS.RevRange
import PyProof.Rows.NestShow
import HandS.DictComp
import PyProof.Rows.StrMeet
import KE.GoesEnum
import HandS.AnyAll
import HandS.GenList
import PyProof.TupleOfGen
import HandS.EndTab
import HandS.SetTxt0
import PyProof.Rows.SortShellAny
import HandS.IsInst
import HandS.ExcInit
import HandS.ExcSuper
import HandS.FStr
import KE.KExcInit
import KE.KExcSuper
import KE.KSuper
import PyProof.ReprRoads
import HandS.ExcField
import HandS.FStrTup
import HandS.SortKw
import PyProof.MinMaxWalk
import PyProof.WalkInts
import HandS.Star
import HandS.Zip
import KE.KRevSl
import PyProof.SumWalkG
import KE.GoesEnumKw
import PyProof.ListRange
import KE.KDictZip
import KE.KNestM
import HandS.Text
import HandS.Iter
import PyProof.StrBlock2
import KE.KxField
import PyProof.GenQ
import HandS.GenCall
import HandS.RaiseMore
import PySem.Challenge.RW_beatscan_k30_nets_as_texts
set_option Elab.async false
set_option linter.all false
set_option maxRecDepth 100000
set_option maxHeartbeats 4000000
namespace By
open PySem L2
/-- data, or a cell of the store -/
inductive W where
  | d (x : PyData)
  | r (i : Nat)
  /-- a pair that is only read -/
  | p (u w : W)
inductive O where
  | lst (xs : List W)
  | dK (kvs : List (Key × W))
  | ins (C : Addr) (fs : List (Str × W))
  /-- the table of a def's code object -/
  | tbl (P : Addr)
  /-- the table of a def's code object whose lambdas bear the name q -/
  | ltb (P : Addr) (q : Str)
abbrev Mem := List O
structure Exn where
  cls : Value
  fs : List (Str × PyData)
inductive R (α : Type) where
  | ok (a : α) (M : Mem)
  | ex (e : Exn) (M : Mem)
  | bot
def R.bind {α β : Type} (r : R α) (f : α → Mem → R β) : R β := match r with
  | .ok a M => f a M
  | .ex e M => .ex e M
  | .bot => .bot
abbrev Rho := List (Option W)
abbrev DE := Rho → Mem → R W
abbrev DT := Rho → Mem → R Bool
abbrev DA := Rho → Mem → R (List W)
inductive Out where
  | nx (ρ : Rho)
  | rt (w : W)
  | bk (ρ : Rho)
  | ct (ρ : Rho)
abbrev DS := Rho → Mem → R Out
abbrev FD := List W → Mem → R W

abbrev H00 : Hp := fun _ => none
def LvL (K : PySem.W.Frag) (m z : List Addr) (H : Hp) (a : Addr) (xs : List V) : Prop := (Rd H a (.lst xs) ∧ a ∉ m ∧ a ∉ z) ∨ SqL K H00 a xs
section
variable (K : PySem.W.Frag) (m z : List Addr) (H : Hp)
/-- a list | a tuple at a that nobody changes: tracked outside of the store, or written -/
def LvT (a : Addr) (xs : List V) : Prop := (Rd H a (.tup xs) ∧ a ∉ m ∧ a ∉ z) ∨ SqT K H00 a xs
mutual
inductive RD : V → PyData → Prop
  | non : RD .non .none
  | bl (b : Bool) : RD (.bl b) (.bool b)
  | int (i : Int) : RD (.int i) (.int i)
  | str (x : Str) : RD (.str x) (.str x)
  | lst {a : Addr} {xs : List V} {ds : List PyData} : LvL K m z H a xs → RDs xs ds → RD (.ref a) (.list ds)
  | tup {a : Addr} {xs : List V} {ds : List PyData} : LvT K m z H a xs → RDs xs ds → RD (.ref a) (.tuple ds)
inductive RDs : List V → List PyData → Prop
  | nil : RDs [] []
  | cons {v : V} {vs : List V} {d : PyData} {ds : List PyData} : RD v d → RDs vs ds → RDs (v :: vs) (d :: ds)
end
inductive RW : V → W → Prop
  | d {v : V} {x : PyData} : RD K m z H v x → RW v (.d x)
  | r {a : Addr} {i : Nat} : m[i]? = some a → RW (.ref a) (.r i)
  | p {a : Addr} {x y : V} {u w : W} : LvT K m z H a [x, y] → RW x u → RW y w → RW (.ref a) (.p u w)
abbrev RWs : List V → List W → Prop := Paired (RW K m z H)
def RO (a : Addr) : O → Prop
  | .lst ws => ∃ vs, H a = some (.lst vs) ∧ RWs K m z H vs ws
  | .dK kvs => ∃ ks, H a = some (.dK ks) ∧ Paired (fun (p : Key × V) (q : Key × W) => p.1 = q.1 ∧ RW K m z H p.2 q.2) ks kvs
  | .ins C fs => ∃ dx gs, H a = some (.ins C dx gs) ∧ Paired (fun (p : Str × V) (q : Str × W) => p.1 = q.1 ∧ RW K m z H p.2 q.2) gs fs
  | .tbl P => a = P ∧ ∃ ps : Array Value, H a = some (.tbl ps) ∧ TriplesOk ps.toList
  | .ltb P q => a = P ∧ ∃ ps : Array Value, H a = some (.tbl ps) ∧ TriplesOk ps.toList ∧ ∀ (pos : Pos) (cv : Value), codeAmong pos ps.toList = some cv → ∃ c, cv = .ref c ∧ H c = some (LamX.CodeO c q) ∧ c ∉ m ∧ c ∉ z
structure RM (M : Mem) : Prop where
  len : m.length = M.length
  nd : m.Nodup
  zt : ∀ a ∈ z, ∃ o, H a = some o
  dz : ∀ a ∈ m, a ∉ z
  ob : ∀ (i : Nat) (o : O) (a : Addr), M[i]? = some o → m[i]? = some a → RO K m z H a o
def RS (σ : St) (ρ : Rho) : Prop := σ.length = ρ.length ∧ ∀ (i : Nat) (w : W), ρ[i]? = some (some w) → ∃ v, σ[i]? = some (some v) ∧ RW K m z H v w
inductive RXd : Option Addr → List (Str × PyData) → Prop
  | nil : RXd none []
  | own {a : Addr} {fs : List (Str × V)} {ds : List (Str × PyData)} : H a = some (.xd fs) → Paired (fun (p : Str × V) (q : Str × PyData) => p.1 = q.1 ∧ RD K m z H p.2 q.2) fs ds → RXd (some a) ds
def RX (cls : Value) (d : Option Addr) (e : Exn) : Prop := cls = e.cls ∧ RXd K m z H d e.fs
end
structure Ext (m : List Addr) (H : Hp) (m' : List Addr) (H' : Hp) : Prop where
  pre : ∃ t, m' = m ++ t ∧ ∀ a ∈ t, H a = none
  kp : ∀ a o, H a = some o → a ∉ m → H' a = some o
  th : ∀ a o, H a = some o → ∃ o', H' a = some o'
theorem Ext.refl (m : List Addr) (H : Hp) : Ext m H m H := ⟨⟨[], by simp⟩, fun _ _ h _ => h, fun _ o h => ⟨o, h⟩⟩
theorem Ext.fresh {m m' : List Addr} {H H' : Hp} (e : Ext m H m' H') {a : Addr} (h : H' a = none) : H a = none := by
  cases q : H a with
  | none => rfl
  | some o =>
    obtain ⟨o', z⟩ := e.th a o q
    rw [h] at z
    cases z
theorem Ext.trans {m m1 m2 : List Addr} {H H1 H2 : Hp} (a : Ext m H m1 H1) (b : Ext m1 H1 m2 H2) : Ext m H m2 H2 := by
  obtain ⟨t, ht, hf⟩ := a.pre
  obtain ⟨t2, ht2, hf2⟩ := b.pre
  refine ⟨⟨t ++ t2, by rw [ht2, ht, List.append_assoc], fun x hx => ?_⟩, fun x o h hm => ?_, fun x o h => ?_⟩
  · rcases List.mem_append.mp hx with q | q
    · exact hf x q
    · exact a.fresh (hf2 x q)
  · refine b.kp x o (a.kp x o h hm) fun q => ?_
    rw [ht] at q
    rcases List.mem_append.mp q with q | q
    · exact hm q
    · rw [hf x q] at h
      cases h
  · obtain ⟨o', h'⟩ := a.th x o h
    exact b.th x o' h'
theorem Ext.notin {m m' : List Addr} {H H' : Hp} (e : Ext m H m' H') {a : Addr} {o : HO} (h : H a = some o) (hm : a ∉ m) : a ∉ m' := by
  obtain ⟨t, ht, hf⟩ := e.pre
  rw [ht]
  intro q
  rcases List.mem_append.mp q with q | q
  · exact hm q
  · rw [hf a q] at h
    cases h
theorem Ext.at {m m' : List Addr} {H H' : Hp} (e : Ext m H m' H') {i : Nat} {a : Addr} (h : m[i]? = some a) : m'[i]? = some a := by
  obtain ⟨t, ht, _⟩ := e.pre
  rw [ht, List.getElem?_append_left (List.getElem?_eq_some_iff.mp h).1]
  exact h
/-- a new object outside of the store -/
theorem Ext.new {m : List Addr} {H : Hp} {p : Addr} {o : HO} (h : H p = none) : Ext m H m (upd H p o) :=
  ⟨⟨[], by simp⟩, fun a u e _ => by rw [upd_ne (ne_of_none e h)]; exact e, fun a u e => ⟨u, by rw [upd_ne (ne_of_none e h)]; exact e⟩⟩
/-- a new object of the store -/
theorem Ext.alloc {m : List Addr} {H : Hp} {p : Addr} {o : HO} (h : H p = none) : Ext m H (m ++ [p]) (upd H p o) :=
  ⟨⟨[p], rfl, fun a ha => by rw [List.mem_singleton.mp ha]; exact h⟩, fun a u e _ => by rw [upd_ne (ne_of_none e h)]; exact e, fun a u e => ⟨u, by rw [upd_ne (ne_of_none e h)]; exact e⟩⟩
/-- an object of the store changes -/
theorem Ext.write {m : List Addr} {H : Hp} {p : Addr} {o : HO} (h : p ∈ m) : Ext m H m (upd H p o) :=
  ⟨⟨[], by simp⟩, fun a u e hm => by
    have ne : a ≠ p := fun q => hm (by rw [q]; exact h)
    rw [upd_ne ne]
    exact e, fun a u e => by
    by_cases q : a = p
    · exact ⟨o, by rw [q, upd_same]⟩
    · exact ⟨u, by rw [upd_ne q]; exact e⟩⟩
section
variable {K : PySem.W.Frag} {m m' z z' : List Addr} {H H' : Hp}
theorem rd_kp {a : Addr} {u : HO} (k : ∀ o, H a = some o → H' a = some o) (h : Rd H a u) : Rd H' a u := by
  rcases h with h | ⟨o, h⟩
  · exact .inl (k _ h)
  · exact .inr ⟨o, k _ h⟩
theorem rd_some {a : Addr} {u : HO} (h : Rd H a u) : ∃ o, H a = some o := by
  rcases h with h | ⟨o, h⟩
  · exact ⟨_, h⟩
  · exact ⟨_, h⟩
/-- what data leans on may be said otherwise -/
theorem LvL.go {a : Addr} {xs : List V} (k : ∀ a o, H a = some o → a ∉ m → a ∉ z → H' a = some o ∧ a ∉ m' ∧ a ∉ z') (h : LvL K m z H a xs) : LvL K m' z' H' a xs := by
  rcases h with ⟨h, h1, h2⟩ | h
  · obtain ⟨o, ho⟩ := rd_some h
    obtain ⟨_, q1, q2⟩ := k a o ho h1 h2
    exact .inl ⟨rd_kp (fun o h => (k a o h h1 h2).1) h, q1, q2⟩
  · exact .inr h
theorem LvT.go {a : Addr} {xs : List V} (k : ∀ a o, H a = some o → a ∉ m → a ∉ z → H' a = some o ∧ a ∉ m' ∧ a ∉ z') (h : LvT K m z H a xs) : LvT K m' z' H' a xs := by
  rcases h with ⟨h, h1, h2⟩ | h
  · obtain ⟨o, ho⟩ := rd_some h
    obtain ⟨_, q1, q2⟩ := k a o ho h1 h2
    exact .inl ⟨rd_kp (fun o h => (k a o h h1 h2).1) h, q1, q2⟩
  · exact .inr h
mutual
theorem RD.go (k : ∀ a o, H a = some o → a ∉ m → a ∉ z → H' a = some o ∧ a ∉ m' ∧ a ∉ z') : ∀ (d : PyData) (v : V), RD K m z H v d → RD K m' z' H' v d
  | .none, _, .non => .non
  | .bool _, _, .bl b => .bl b
  | .int _, _, .int i => .int i
  | .str _, _, .str x => .str x
  | .list ds, _, .lst h hs => .lst (h.go k) (RDs.go k ds _ hs)
  | .tuple ds, _, .tup h hs => .tup (h.go k) (RDs.go k ds _ hs)
theorem RDs.go (k : ∀ a o, H a = some o → a ∉ m → a ∉ z → H' a = some o ∧ a ∉ m' ∧ a ∉ z') : ∀ (ds : List PyData) (vs : List V), RDs K m z H vs ds → RDs K m' z' H' vs ds
  | [], _, .nil => .nil
  | d :: ds, _, .cons h hs => .cons (RD.go k d _ h) (RDs.go k ds _ hs)
end
theorem extGo (e : Ext m H m' H') : ∀ a o, H a = some o → a ∉ m → a ∉ z → H' a = some o ∧ a ∉ m' ∧ a ∉ z := fun a o h h1 h2 => ⟨e.kp a o h h1, e.notin h h1, h2⟩
theorem RD.mono {v : V} {d : PyData} (e : Ext m H m' H') (h : RD K m z H v d) : RD K m' z H' v d := RD.go (extGo e) d v h
theorem RDs.mono {vs : List V} {ds : List PyData} (e : Ext m H m' H') (h : RDs K m z H vs ds) : RDs K m' z H' vs ds := RDs.go (extGo e) ds vs h
theorem RW.mono {v : V} {w : W} (e : Ext m H m' H') (h : RW K m z H v w) : RW K m' z H' v w := by
  induction h with
  | d h => exact .d (h.mono e)
  | r h => exact .r (e.at h)
  | p h _ _ i1 i2 => exact .p (h.go (extGo e)) i1 i2
theorem RWs.mono {vs : List V} {ws : List W} (e : Ext m H m' H') (h : RWs K m z H vs ws) : RWs K m' z H' vs ws := Paired.mapP h fun _ _ q => q.mono e
theorem RS.mono {σ : St} {ρ : Rho} (e : Ext m H m' H') (h : RS K m z H σ ρ) : RS K m' z H' σ ρ := ⟨h.1, fun i w q => by
  obtain ⟨v, h1, h2⟩ := h.2 i w q
  exact ⟨v, h1, h2.mono e⟩⟩
theorem RS.set {σ : St} {ρ : Rho} {i : Nat} {v : V} {w : W} (h : RS K m z H σ ρ) (r : RW K m z H v w) : RS K m z H (σ.set i (some v)) (ρ.set i (some w)) := by
  refine ⟨by rw [List.length_set, List.length_set]; exact h.1, fun j u q => ?_⟩
  by_cases hj : i = j
  · subst hj
    by_cases hl : i < ρ.length
    · rw [List.getElem?_set_self hl] at q
      cases q
      exact ⟨v, List.getElem?_set_self (by rw [h.1]; exact hl), r⟩
    · rw [List.getElem?_eq_none (by rw [List.length_set]; omega)] at q
      cases q
  · rw [List.getElem?_set_ne hj] at q
    obtain ⟨x, h1, h2⟩ := h.2 j u q
    exact ⟨x, by rw [List.getElem?_set_ne hj]; exact h1, h2⟩
/-- written data, wherever -/
theorem RD.any {v : V} {d : PyData} (h : RD K [] [] H00 v d) : RD K m z H v d := RD.go (m := []) (z := []) (H := H00) (fun a o q => by cases q) d v h
theorem RO.of_rw {a : Addr} {o : O} (ha : ∀ u, H a = some u → H' a = some u) (k : ∀ v w, RW K m z H v w → RW K m' z' H' v w) (kc : ∀ c u, H c = some u → c ∉ m → c ∉ z → H' c = some u ∧ c ∉ m' ∧ c ∉ z') (h : RO K m z H a o) : RO K m' z' H' a o := by
  cases o with
  | lst ws =>
    obtain ⟨vs, h1, h2⟩ := h
    exact ⟨vs, ha _ h1, Paired.mapP h2 k⟩
  | dK kvs =>
    obtain ⟨ks, h1, h2⟩ := h
    exact ⟨ks, ha _ h1, Paired.mapP h2 fun _ _ q => ⟨q.1, k _ _ q.2⟩⟩
  | ins C fs =>
    obtain ⟨dx, gs, h1, h2⟩ := h
    exact ⟨dx, gs, ha _ h1, Paired.mapP h2 fun _ _ q => ⟨q.1, k _ _ q.2⟩⟩
  | tbl P =>
    obtain ⟨e, ps, h1, h2⟩ := h
    exact ⟨e, ps, ha _ h1, h2⟩
  | ltb P q =>
    obtain ⟨e, ps, h1, h2, h3⟩ := h
    exact ⟨e, ps, ha _ h1, h2, fun pos cv hc => let ⟨c, e1, e2, e3, e6⟩ := h3 pos cv hc; ⟨c, e1, kc c _ e2 e3 e6⟩⟩
theorem RM.tracked {M : Mem} (h : RM K m z H M) {a : Addr} (ha : a ∈ m) : ∃ o, H a = some o := by
  obtain ⟨i, hi, e⟩ := List.getElem_of_mem ha
  have q : m[i]? = some a := by rw [List.getElem?_eq_getElem hi, e]
  have hi' : i < M.length := by rw [← h.len]; exact hi
  have r := h.ob i M[i] a (List.getElem?_eq_getElem hi') q
  revert r
  cases M[i] with
  | lst ws => exact fun ⟨vs, h1, _⟩ => ⟨_, h1⟩
  | dK kvs => exact fun ⟨vs, h1, _⟩ => ⟨_, h1⟩
  | ins C fs => exact fun ⟨_, _, h1, _⟩ => ⟨_, h1⟩
  | tbl P => exact fun ⟨_, _, h1, _⟩ => ⟨_, h1⟩
  | ltb P q => exact fun ⟨_, _, h1, _⟩ => ⟨_, h1⟩
/-- all that was tracked stands as it was -/
theorem RM.same {M : Mem} (h : RM K m z H M) (e : Ext m H m H') (k : ∀ a ∈ m, ∀ o, H a = some o → H' a = some o) : RM K m z H' M :=
  ⟨h.len, h.nd, fun a ha => let ⟨o, q⟩ := h.zt a ha; e.th a o q, h.dz, fun i o a h1 h2 => (h.ob i o a h1 h2).of_rw (k a (List.mem_of_getElem? h2)) (fun _ _ q => q.mono e) fun c u q n n2 => ⟨e.kp c u q n, n, n2⟩⟩
theorem RM.new {M : Mem} (h : RM K m z H M) {p : Addr} {o : HO} (hp : H p = none) : RM K m z (upd H p o) M :=
  h.same (Ext.new hp) fun a ha u q => by rw [upd_ne (ne_of_none q hp)]; exact q
theorem RM.fresh_notin {M : Mem} (h : RM K m z H M) {p : Addr} (hp : H p = none) : p ∉ m := fun q => by
  obtain ⟨o, e⟩ := h.tracked q
  rw [hp] at e
  cases e
theorem RM.fresh_notz {M : Mem} (h : RM K m z H M) {p : Addr} (hp : H p = none) : p ∉ z := fun q => by
  obtain ⟨o, e⟩ := h.zt p q
  rw [hp] at e
  cases e
/-- a new object of the store -/
theorem RM.alloc {M : Mem} (h : RM K m z H M) {p : Addr} {o : HO} {ob : O} (hp : H p = none) (hob : RO K (m ++ [p]) z (upd H p o) p ob) : RM K (m ++ [p]) z (upd H p o) (M ++ [ob]) := by
  have e : Ext m H (m ++ [p]) (upd H p o) := Ext.alloc hp
  refine ⟨by rw [List.length_append, List.length_append, h.len]; rfl, ?_, fun a ha => let ⟨u, q⟩ := h.zt a ha; e.th a u q, fun a ha => ?_, fun i u a h1 h2 => ?_⟩
  · refine List.nodup_append.mpr ⟨h.nd, by simp, fun a ha b hb => ?_⟩
    rw [List.mem_singleton.mp hb]
    exact fun q => h.fresh_notin hp (q ▸ ha)
  · rcases List.mem_append.mp ha with q | q
    · exact h.dz a q
    · rw [List.mem_singleton.mp q]
      exact h.fresh_notz hp
  · by_cases hi : i < M.length
    · rw [List.getElem?_append_left hi] at h1
      rw [List.getElem?_append_left (by rw [h.len]; exact hi)] at h2
      exact (h.ob i u a h1 h2).of_rw (fun w q => by rw [upd_ne (ne_of_none q hp)]; exact q) (fun _ _ q => q.mono e) fun c v q n n2 => ⟨e.kp c v q n, e.notin q n, n2⟩
    · rw [List.getElem?_append_right (by omega)] at h1
      rw [List.getElem?_append_right (by rw [h.len]; omega)] at h2
      rw [h.len] at h2
      cases j : i - M.length with
      | zero =>
        rw [j] at h1 h2
        cases h1
        cases h2
        exact hob
      | succ j' =>
        rw [j] at h1
        simp at h1
/-- an object of the store changes -/
theorem RM.write {M : Mem} (h : RM K m z H M) {i : Nat} {p : Addr} {o : HO} {ob : O} (hi : m[i]? = some p) (hob : RO K m z (upd H p o) p ob) : RM K m z (upd H p o) (M.set i ob) := by
  have hp : p ∈ m := List.mem_of_getElem? hi
  have e : Ext m H m (upd H p o) := Ext.write hp
  refine ⟨by rw [List.length_set]; exact h.len, h.nd, fun a ha => let ⟨u, q⟩ := h.zt a ha; e.th a u q, h.dz, fun j u a h1 h2 => ?_⟩
  by_cases hj : i = j
  · subst hj
    rw [hi] at h2
    cases h2
    have hl : i < M.length := by
      rw [← h.len]
      exact (List.getElem?_eq_some_iff.mp hi).1
    rw [List.getElem?_set_self hl] at h1
    cases h1
    exact hob
  · rw [List.getElem?_set_ne hj] at h1
    have ha : a ≠ p := fun q => hj (by
      subst q
      obtain ⟨l1, e1⟩ := List.getElem?_eq_some_iff.mp hi
      obtain ⟨l2, e2⟩ := List.getElem?_eq_some_iff.mp h2
      exact (List.getElem_inj h.nd).mp (e1.trans e2.symm))
    exact (h.ob j u a h1 h2).of_rw (fun w q => by rw [upd_ne ha]; exact q) (fun _ _ q => q.mono e) fun c v q n n2 => ⟨e.kp c v q n, n, n2⟩
theorem RM.addr {M : Mem} (h : RM K m z H M) {i : Nat} {o : O} (hi : M[i]? = some o) : ∃ a, m[i]? = some a ∧ RO K m z H a o := by
  have hl : i < m.length := by rw [h.len]; exact (List.getElem?_eq_some_iff.mp hi).1
  exact ⟨m[i], List.getElem?_eq_getElem hl, h.ob i o _ hi (List.getElem?_eq_getElem hl)⟩
end

def Post (K : PySem.W.Frag) (z : List Addr) (E : XK) (m : List Addr) (H : Hp) {α : Type} (k : α → Mem → List Addr → Hp → Prop) : R α → Prop
  | .ok a M' => ∀ m' H', Ext m H m' H' → RM K m' z H' M' → k a M' m' H'
  | .ex e M' => ∀ m' H', Ext m H m' H' → RM K m' z H' M' → ∀ cls d, RX K m' z H' cls d e → E cls d H'
  | .bot => False
section
variable {K : PySem.W.Frag} {z : List Addr} {E : XK} {m m1 : List Addr} {H H1 : Hp} {α β : Type}
theorem Post.mono {k : α → Mem → List Addr → Hp → Prop} {r : R α} (e : Ext m H m1 H1) (h : Post K z E m H k r) : Post K z E m1 H1 k r := by
  cases r with
  | ok a M' => exact fun m' H' e' hm => h m' H' (e.trans e') hm
  | ex x M' => exact fun m' H' e' hm => h m' H' (e.trans e') hm
  | bot => exact h
theorem Post.imp {k k' : α → Mem → List Addr → Hp → Prop} {r : R α} (h : Post K z E m H k r) (i : ∀ a M' m' H', r = .ok a M' → Ext m H m' H' → RM K m' z H' M' → k a M' m' H' → k' a M' m' H') : Post K z E m H k' r := by
  cases r with
  | ok a M' => exact fun m' H' e' hm => i a M' m' H' rfl e' hm (h m' H' e' hm)
  | ex x M' => exact h
  | bot => exact h
theorem Post.unbind {k : β → Mem → List Addr → Hp → Prop} {r : R α} {f : α → Mem → R β} (h : Post K z E m H k (r.bind f)) : Post K z E m H (fun a M' m' H' => Post K z E m' H' k (f a M')) r := by
  cases r with
  | ok a M' => exact fun m' H' e' _ => Post.mono e' h
  | ex x M' => exact h
  | bot => exact h
/-- at once -/
theorem Post.now {k : α → Mem → List Addr → Hp → Prop} {a : α} {M : Mem} (h : Post K z E m H k (.ok a M)) (hm : RM K m z H M) : k a M m H := h m H (Ext.refl m H) hm
end
end By
namespace By
open PySem L2
def kE (K : PySem.W.Frag) (z : List Addr) (Q : VK) : W → Mem → List Addr → Hp → Prop := fun w _ m' H' => ∀ v, RW K m' z H' v w → Q v H'
def kT (Q : Bool → Hp → Prop) : Bool → Mem → List Addr → Hp → Prop := fun b _ _ H' => Q b H'
def kA (K : PySem.W.Frag) (z : List Addr) (Q : List V → Hp → Prop) : List W → Mem → List Addr → Hp → Prop := fun ws _ m' H' => ∀ vs, RWs K m' z H' vs ws → Q vs H'
def kS (K : PySem.W.Frag) (z : List Addr) (D : Ends) : Out → Mem → List Addr → Hp → Prop := fun o _ m' H' => match o with
  | .nx ρ => ∀ σ, RS K m' z H' σ ρ → D.nx σ H'
  | .rt w => ∀ v, RW K m' z H' v w → D.rt v H'
  | .bk ρ => ∀ σ, RS K m' z H' σ ρ → D.bk σ H'
  | .ct ρ => ∀ σ, RS K m' z H' σ ρ → D.ct σ H'
def LE (K : PySem.W.Frag) (E : XK) (t : DE) : TE := fun σ H Q => ∃ m z ρ M, RS K m z H σ ρ ∧ RM K m z H M ∧ Post K z E m H (kE K z Q) (t ρ M)
def LT (K : PySem.W.Frag) (E : XK) (t : DT) : TT := fun σ H Q => ∃ m z ρ M, RS K m z H σ ρ ∧ RM K m z H M ∧ Post K z E m H (kT Q) (t ρ M)
def LA (K : PySem.W.Frag) (E : XK) (t : DA) : TA := fun σ H Q => ∃ m z ρ M, RS K m z H σ ρ ∧ RM K m z H M ∧ Post K z E m H (kA K z Q) (t ρ M)
def LSt (K : PySem.W.Frag) (E : XK) (t : DS) : TS := fun D σ H => ∃ m z ρ M, RS K m z H σ ρ ∧ RM K m z H M ∧ Post K z E m H (kS K z D) (t ρ M)
def QE (X : Cx) (E : XK) (e : Expr) (t : DE) : Prop := PE X e (LE X.K E t)
def QT (X : Cx) (E : XK) (e : Expr) (t : DT) : Prop := PT X e (LT X.K E t)
def QA (X : Cx) (E : XK) (es : List Expr) (t : DA) : Prop := PA X es (LA X.K E t)
def QS (X : Cx) (E : XK) (st : Stmt) (t : DS) : Prop := PS X st (LSt X.K E t)
def QSs (X : Cx) (E : XK) (sts : List Stmt) (t : DS) : Prop := PSs X sts (LSt X.K E t)
theorem PE.imp {X : Cx} {e : Expr} {t t' : TE} (h : PE X e t) (i : ∀ σ H Q, t' σ H Q → t σ H Q) : PE X e t' := ⟨fun pins s σ H Q I q => h.run pins s σ H Q I (i σ H Q q)⟩
theorem PT.imp {X : Cx} {e : Expr} {t t' : TT} (h : PT X e t) (i : ∀ σ H Q, t' σ H Q → t σ H Q) : PT X e t' := ⟨fun pins s σ H Q I q => h.run pins s σ H Q I (i σ H Q q)⟩
theorem PW.imp {X : Cx} {e : Expr} {t t' : TT} (h : PW X e t) (i : ∀ σ H Q, t' σ H Q → t σ H Q) : PW X e t' := ⟨fun w pins s σ H Q I q => h.run w pins s σ H Q I (i σ H Q q)⟩
theorem PA.imp {X : Cx} {e : List Expr} {t t' : TA} (h : PA X e t) (i : ∀ σ H Q, t' σ H Q → t σ H Q) : PA X e t' := ⟨fun p pins s σ H Q I q => h.run p pins s σ H Q I (i σ H Q q)⟩
theorem PS.imp {X : Cx} {st : Stmt} {t t' : TS} (h : PS X st t) (i : ∀ D σ H, t' D σ H → t D σ H) : PS X st t' := ⟨fun pins s σ H D I q => h.run pins s σ H D I (i D σ H q)⟩
theorem PSs.imp {X : Cx} {st : List Stmt} {t t' : TS} (h : PSs X st t) (i : ∀ D σ H, t' D σ H → t D σ H) : PSs X st t' := ⟨fun pins s σ H D I q => h.run pins s σ H D I (i D σ H q)⟩
section
variable {X : Cx} {E : XK} {e a b c : Expr} {ta tb : DE} {pos : Pos}
def dVar (i : Nat) : DE := fun ρ M => match ρ[i]? with
  | some (some w) => .ok w M
  | _ => .bot
def dC (d : PyData) : DE := fun _ M => .ok (.d d) M
theorem q_var (i : Nat) {x : Str} (h : PE X (.Name x pos) (tVar i)) : QE X E (.Name x pos) (dVar i) := by
  refine PE.imp h fun σ H Q ⟨m, z, ρ, M, hs, hm, hp⟩ => ?_
  unfold dVar at hp
  split at hp
  · rename_i w e
    obtain ⟨v, h1, h2⟩ := hs.2 i w e
    exact ⟨v, h1, hp.now hm v h2⟩
  · exact hp.elim
theorem q_const {v : V} {d : PyData} (h : PE X e (tC v)) (r : RD X.K [] [] H00 v d) : QE X E e (dC d) := by
  refine PE.imp h fun σ H Q ⟨m, z, ρ, M, hs, hm, hp⟩ => ?_
  exact Post.now (k := kE X.K z Q) hp hm v (.d r.any)
theorem q_int {i : Int} {j : Nat} : QE X E (.Constant (.int i) j pos) (dC (.int i)) := q_const pe_int (.int i)
theorem q_bl {b : Bool} {j : Nat} : QE X E (.Constant (.bool b) j pos) (dC (.bool b)) := q_const pe_bl (.bl b)
theorem q_non {j : Nat} : QE X E (.Constant .none j pos) (dC .none) := q_const pe_non .non
theorem q_str {x : Str} {j : Nat} : QE X E (.Constant (.str x) j pos) (dC (.str x)) := q_const pe_str (.str x)

/-- what two values give -/
abbrev F2 := W → W → Mem → R W
abbrev F1 := W → Mem → R W
abbrev FL := List W → Mem → R W
def dBin (f : F2) (ta tb : DE) : DE := fun ρ M => (ta ρ M).bind fun x M1 => (tb ρ M1).bind fun y M2 => f x y M2
def dUn (f : F1) (ta : DE) : DE := fun ρ M => (ta ρ M).bind fun x M1 => f x M1
/-- an operation's rule asks no more than that -/
def B2 (K : PySem.W.Frag) (E : XK) (r : R2) (f : F2) : Prop := ∀ (m z : List Addr) (H : Hp) (M : Mem) (x y : V) (u w : W) (Q : VK), RM K m z H M → RW K m z H x u → RW K m z H y w → Post K z E m H (kE K z Q) (f u w M) → r x y H Q
def B1 (K : PySem.W.Frag) (E : XK) (r : V → Hp → VK → Prop) (f : F1) : Prop := ∀ (m z : List Addr) (H : Hp) (M : Mem) (x : V) (u : W) (Q : VK), RM K m z H M → RW K m z H x u → Post K z E m H (kE K z Q) (f u M) → r x H Q
def BL (K : PySem.W.Frag) (E : XK) (r : List V → Hp → VK → Prop) (f : FL) : Prop := ∀ (m z : List Addr) (H : Hp) (M : Mem) (xs : List V) (us : List W) (Q : VK), RM K m z H M → RWs K m z H xs us → Post K z E m H (kE K z Q) (f us M) → r xs H Q
theorem tOp_of {r : R2} {f : F2} (hr : B2 X.K E r f) : ∀ σ H Q, LE X.K E (dBin f ta tb) σ H Q → tOp r (LE X.K E ta) (LE X.K E tb) σ H Q := fun σ H Q ⟨m, z, ρ, M, hs, hm, hp⟩ =>
  ⟨m, z, ρ, M, hs, hm, (Post.unbind hp).imp fun x M1 m1 H1 _ e1 hm1 hp1 v rv => ⟨m1, z, ρ, M1, hs.mono e1, hm1, (Post.unbind hp1).imp fun y M2 m2 H2 _ e2 hm2 hp2 u ru => hr m2 z H2 M2 v u x y Q hm2 (rv.mono e2) ru hp2⟩⟩
theorem q_op {op : Operator} {r : R2} {f : F2} (ho : OpR X (binaryOp op) r) (hr : B2 X.K E r f) (ha : QE X E a ta) (hb : QE X E b tb) : QE X E (.BinOp a op b pos) (dBin f ta tb) := PE.imp (pe_op ho ha hb) (tOp_of hr)
theorem q_cmp {op : CmpOp} {r : R2} {f : F2} (ho : OpR X (compareOp op) r) (hm : behindInMarks op b = false) (hr : B2 X.K E r f) (ha : QE X E a ta) (hb : QE X E b tb) : QE X E (.Compare a [op] [b] pos) (dBin f ta tb) := PE.imp (pe_cmpR ho ha hb hm) (tOp_of hr)
def fII (g : Int → Int → Option PyData) : F2 := fun u w M => match u, w with
  | .d (.int i), .d (.int j) => match g i j with
    | some d => .ok (.d d) M
    | none => .bot
  | _, _ => .bot
theorem b2_II {K : PySem.W.Frag} {r : R2} {g : Int → Int → Option PyData} (h : ∀ (i j : Int) (d : PyData) (H : Hp) (Q : VK), g i j = some d → (∀ v, RD K [] [] H00 v d → Q v H) → r (.int i) (.int j) H Q) : B2 K E r (fII g) := by
  intro m z H M x y u w Q hm ru rw hp
  unfold fII at hp
  split at hp
  · rename_i i j
    cases ru with
    | d ru =>
      cases ru
      cases rw with
      | d rw =>
        cases rw
        split at hp
        · rename_i d hd
          exact h i j d H Q hd fun v rv => Post.now (k := kE K z Q) hp hm v (.d rv.any)
        · exact hp.elim
  · exact hp.elim
theorem b2_I0 {K : PySem.W.Frag} {g : Int → Int → Int} : B2 K E (rI0 fun i j => .int (g i j)) (fII fun i j => some (.int (g i j))) := b2_II fun i j d H Q e k => by
  cases e
  exact ⟨i, j, rfl, rfl, k _ (.int _)⟩
theorem b2_B0 {K : PySem.W.Frag} {g : Int → Int → Bool} : B2 K E (rI0 fun i j => .bl (g i j)) (fII fun i j => some (.bool (g i j))) := b2_II fun i j d H Q e k => by
  cases e
  exact ⟨i, j, rfl, rfl, k _ (.bl _)⟩
theorem b2_IC {K : PySem.W.Frag} {C : Int → Int → Prop} [∀ i j, Decidable (C i j)] {g : Int → Int → Int} : B2 K E (rI C fun i j => .int (g i j)) (fII fun i j => if C i j then some (.int (g i j)) else none) := b2_II fun i j d H Q e k => by
  by_cases hc : C i j
  · rw [if_pos hc] at e
    cases e
    exact ⟨i, j, rfl, rfl, hc, k _ (.int _)⟩
  · rw [if_neg hc] at e
    cases e
instance (i j : Int) : Decidable (CShl i j) := by unfold CShl; infer_instance
instance (i j : Int) : Decidable (CDivW i j) := by unfold CDivW; infer_instance
instance (i j : Int) : Decidable (CMulX i j) := by unfold CMulX; infer_instance
instance (i j : Int) : Decidable (CPow i j) := by unfold CPow; infer_instance
def fAdd : F2 := fII fun i j => some (.int (i + j))
def fSub : F2 := fII fun i j => some (.int (i - j))
def fMul : F2 := fII fun i j => if CMulX i j then some (.int (i * j)) else none
def fDiv : F2 := fII fun i j => if CDivW i j then some (.int (i / j)) else none
def fMod : F2 := fII fun i j => if 0 < j then some (.int (i % j)) else none
def fPow : F2 := fII fun i j => if CPow i j then some (.int (i ^ j.toNat)) else none
def fShl : F2 := fII fun i j => if CShl i j then some (.int (i * 2 ^ j.toNat)) else none
def fShr : F2 := fII fun i j => if 0 ≤ j then some (.int (i / 2 ^ j.toNat)) else none
def fAnd : F2 := fII fun i j => some (.int (Builtin.bitAnd i j))
def fOr : F2 := fII fun i j => some (.int (Builtin.bitOr i j))
def fXor : F2 := fII fun i j => some (.int (Builtin.bitXor i j))
def fLt : F2 := fII fun i j => some (.bool (decide (i < j)))
def fLe : F2 := fII fun i j => some (.bool (decide (i ≤ j)))
def fGt : F2 := fII fun i j => some (.bool (decide (j < i)))
def fGe : F2 := fII fun i j => some (.bool (decide (j ≤ i)))
section
variable {ha : QE X E a ta} {hb : QE X E b tb}
theorem q_add (ha : QE X E a ta) (hb : QE X E b tb) : QE X E (.BinOp a .Add b pos) (dBin fAdd ta tb) := q_op op_add b2_I0 ha hb
theorem q_sub (ha : QE X E a ta) (hb : QE X E b tb) : QE X E (.BinOp a .Sub b pos) (dBin fSub ta tb) := q_op op_sub b2_I0 ha hb
theorem q_mul (ha : QE X E a ta) (hb : QE X E b tb) : QE X E (.BinOp a .Mult b pos) (dBin fMul ta tb) := q_op op_mulX b2_IC ha hb
theorem q_div (ha : QE X E a ta) (hb : QE X E b tb) : QE X E (.BinOp a .FloorDiv b pos) (dBin fDiv ta tb) := q_op op_fdivW b2_IC ha hb
theorem q_mod (ha : QE X E a ta) (hb : QE X E b tb) : QE X E (.BinOp a .Mod b pos) (dBin fMod ta tb) := q_op op_mod (b2_IC (C := fun _ j => 0 < j)) ha hb
theorem q_pow (ha : QE X E a ta) (hb : QE X E b tb) : QE X E (.BinOp a .Pow b pos) (dBin fPow ta tb) := q_op op_pow b2_IC ha hb
theorem q_shl (ha : QE X E a ta) (hb : QE X E b tb) : QE X E (.BinOp a .LShift b pos) (dBin fShl ta tb) := q_op op_shlW b2_IC ha hb
theorem q_and (ha : QE X E a ta) (hb : QE X E b tb) : QE X E (.BinOp a .BitAnd b pos) (dBin fAnd ta tb) := q_op op_and b2_I0 ha hb
end

/-- all of them data -/
def allD : List W → Option (List PyData)
  | [] => some []
  | .d x :: ws => (allD ws).map (x :: ·)
  | .r _ :: _ => none
  | .p _ _ :: _ => none
/-- the data that a value is now -/
def rd (M : Mem) : W → Option PyData
  | .d x => some x
  | .r i => match M[i]? with
    | some (.lst ws) => (allD ws).map .list
    | _ => none
  | .p _ _ => none
mutual
theorem RD.dp {K : PySem.W.Frag} {m z : List Addr} {H : Hp} : ∀ (d : PyData) (v : V), RD K m z H v d → Dp K H v d
  | .none, _, .non => .non
  | .bool _, _, .bl b => .bl b
  | .int _, _, .int i => .int i
  | .str _, _, .str x => .str x
  | .list ds, _, .lst h hs => .lst (h.elim (fun q => .inl q.1) fun q => .inr (by
      rcases q with (q | ⟨_, q⟩) | q
      · cases q
      · cases q
      · exact q)) (RDs.dp ds _ hs)
  | .tuple ds, _, .tup h hs => .tup (h.elim (fun q => .inl q.1) fun q => .inr (by
      rcases q with (q | ⟨_, q⟩) | q
      · cases q
      · cases q
      · exact q)) (RDs.dp ds _ hs)
theorem RDs.dp {K : PySem.W.Frag} {m z : List Addr} {H : Hp} : ∀ (ds : List PyData) (vs : List V), RDs K m z H vs ds → DpAll K H vs ds
  | [], _, .nil => .nil
  | d :: ds, _, .cons h hs => .cons (RD.dp d _ h) (RDs.dp ds _ hs)
end
theorem rds_of_rws {K : PySem.W.Frag} {m z : List Addr} {H : Hp} : ∀ {ws : List W} {ds : List PyData} {vs : List V}, allD ws = some ds → RWs K m z H vs ws → RDs K m z H vs ds
  | [], _, _, e, .nil => by
    cases e
    exact .nil
  | .d x :: ws, ds, _, e, .cons h hs => by
    unfold allD at e
    cases q : allD ws with
    | none =>
      rw [q] at e
      cases e
    | some es =>
      rw [q] at e
      cases e
      cases h with
      | d h => exact .cons h (rds_of_rws q hs)
theorem rws_of_rds {K : PySem.W.Frag} {m z : List Addr} {H : Hp} : ∀ {ds : List PyData} {vs : List V}, RDs K m z H vs ds → RWs K m z H vs (ds.map .d)
  | [], _, .nil => .nil
  | _ :: _, _, .cons h hs => .cons (.d h) (rws_of_rds hs)
theorem LvL.sq {K : PySem.W.Frag} {m z : List Addr} {H : Hp} {a : Addr} {xs : List V} (h : LvL K m z H a xs) : SqL K H a xs := by
  rcases h with ⟨q, _⟩ | (q | ⟨_, q⟩) | q
  · exact .inl q
  · cases q
  · cases q
  · exact .inr q
theorem LvT.sq {K : PySem.W.Frag} {m z : List Addr} {H : Hp} {a : Addr} {xs : List V} (h : LvT K m z H a xs) : SqT K H a xs := by
  rcases h with ⟨q, _⟩ | (q | ⟨_, q⟩) | q
  · exact .inl q
  · cases q
  · cases q
  · exact .inr q
theorem rd_dp {K : PySem.W.Frag} {m z : List Addr} {H : Hp} {M : Mem} {w : W} {d : PyData} {v : V} (hm : RM K m z H M) (e : rd M w = some d) (r : RW K m z H v w) : Dp K H v d := by
  cases r with
  | d r =>
    cases e
    exact RD.dp _ _ r
  | p _ _ _ => cases e
  | r ha =>
    rename_i a i
    unfold rd at e
    split at e
    · rename_i x
      cases x
    · rename_i j x
      cases x
      split at e
      · rename_i ws hw
        cases q : allD ws with
        | none =>
          rw [q] at e
          cases e
        | some ds =>
          rw [q] at e
          cases e
          obtain ⟨vs, h1, h2⟩ := hm.ob i _ a hw ha
          exact .lst (SqL.of h1) (RDs.dp ds _ (rds_of_rws q h2))
      · cases e
    · rename_i x
      cases x
def okEq (d e : PyData) : Bool := d.plain && e.plain && decide (min d.depth e.depth ≤ 150)
def fEq (neg : Bool) : F2 := fun u w M => match rd M u, rd M w with
  | some d, some e => if okEq d e = true then .ok (.d (.bool (if neg then !PyData.eqv d e else PyData.eqv d e))) M else .bot
  | _, _ => .bot
def okIn (d : PyData) (xs : List PyData) : Bool := d.plain && PyData.plainAll xs && decide (min (PyData.depthAll xs) d.depth ≤ 150)
/-- the items of a list or a tuple of data -/
def sqD (M : Mem) (w : W) : Option (List PyData) := match rd M w with
  | some (.list ds) => some ds
  | some (.tuple ds) => some ds
  | _ => none
def fIn (neg : Bool) : F2 := fun u w M => match rd M u, sqD M w with
  | some d, some xs => if okIn d xs = true then .ok (.d (.bool (if neg then !(xs.any fun y => PyData.eqv y d) else xs.any fun y => PyData.eqv y d))) M else .bot
  | _, _ => .bot
def rEqP (K : PySem.W.Frag) (neg : Bool) : R2 := fun x y H Q => ∃ d e, Dp K H x d ∧ Dp K H y e ∧ okEq d e = true ∧ Q (.bl (if neg then !PyData.eqv d e else PyData.eqv d e)) H
def rInP (K : PySem.W.Frag) (neg : Bool) : R2 := fun x y H Q => ∃ d xs, Dp K H x d ∧ (Dp K H y (.list xs) ∨ Dp K H y (.tuple xs)) ∧ okIn d xs = true ∧ Q (.bl (if neg then !(xs.any fun y => PyData.eqv y d) else xs.any fun y => PyData.eqv y d)) H
theorem okEq_u {A : Around} {d e : PyData} (hu : A.units + 200 < cLine) (h : okEq d e = true) : d.plain = true ∧ e.plain = true ∧ A.units + min d.depth e.depth < cLine := by
  unfold okEq at h
  rw [Bool.and_eq_true, Bool.and_eq_true] at h
  have q := of_decide_eq_true h.2
  exact ⟨h.1.1, h.1.2, by omega⟩
theorem op_eqP (hu : X.A.units + 200 < cLine) : OpR X (compareOp .Eq) (rEqP X.K false) := by
  intro pins s σ H x y v u Q I rx ry h
  obtain ⟨d, e, hd, he, ok, q⟩ := h
  obtain ⟨as, r1⟩ := Dp.reads I d x v hd rx
  obtain ⟨bs, r2⟩ := Dp.reads I e y u he ry
  obtain ⟨p1, p2, p3⟩ := okEq_u hu ok
  exact SeqAt.eq_plain r1 r2 p1 p2 p3 ⟨.bl _, H, I, rfl, q⟩
theorem op_neP (hu : X.A.units + 200 < cLine) : OpR X (compareOp .NotEq) (rEqP X.K true) := by
  intro pins s σ H x y v u Q I rx ry h
  obtain ⟨d, e, hd, he, ok, q⟩ := h
  obtain ⟨as, r1⟩ := Dp.reads I d x v hd rx
  obtain ⟨bs, r2⟩ := Dp.reads I e y u he ry
  obtain ⟨p1, p2, p3⟩ := okEq_u hu ok
  exact SeqAt.ne_plain r1 r2 p1 p2 p3 ⟨.bl _, H, I, rfl, q⟩
theorem b2_Eq {K : PySem.W.Frag} {neg : Bool} : B2 K E (rEqP K neg) (fEq neg) := by
  intro m z H M x y u w Q hm ru rw hp
  unfold fEq at hp
  split at hp
  · rename_i d e h1 h2
    split at hp
    · rename_i ok
      exact ⟨d, e, rd_dp hm h1 ru, rd_dp hm h2 rw, ok, Post.now (k := kE K z Q) hp hm _ (.d (.bl _))⟩
    · exact hp.elim
  · exact hp.elim
/-- is None, is not None -/
def fIsN (neg : Bool) : F1 := fun u M => match u with
  | .d .none => .ok (.d (.bool (!neg))) M
  | _ => .ok (.d (.bool neg)) M
end
end By
namespace By
open PySem PySem.Spec PyProof.Rows L2
section
variable {K : PySem.W.Frag} {E : XK} {m z : List Addr} {H : Hp} {M : Mem} {Q : VK} {xs : List V} {ds : List PyData} {ws : List W} {p : Addr}
theorem post_tup (hp : Post K z E m H (kE K z Q) (.ok (.d (.tuple ds)) M)) (hm : RM K m z H M) (r : RDs K m z H xs ds) : ∀ p, H p = none → Q (.ref p) (upd H p (.tup xs)) := fun p h =>
  hp m _ (Ext.new h) (hm.new h) (.ref p) (.d (.tup (.inl ⟨Rd.of upd_same, hm.fresh_notin h, hm.fresh_notz h⟩) (r.mono (Ext.new h))))
theorem post_lst (hp : Post K z E m H (kE K z Q) (.ok (.d (.list ds)) M)) (hm : RM K m z H M) (r : RDs K m z H xs ds) : ∀ p, H p = none → Q (.ref p) (upd H p (.lst xs)) := fun p h =>
  hp m _ (Ext.new h) (hm.new h) (.ref p) (.d (.lst (.inl ⟨Rd.of upd_same, hm.fresh_notin h, hm.fresh_notz h⟩) (r.mono (Ext.new h))))
theorem at_last {α : Type} {l : List α} {a : α} {n : Nat} (h : l.length = n) : (l ++ [a])[n]? = some a := by
  rw [← h, List.getElem?_append_right (Nat.le_refl _)]
  simp
theorem post_lstM (hp : Post K z E m H (kE K z Q) (.ok (.r M.length) (M ++ [.lst ws]))) (hm : RM K m z H M) (r : RWs K m z H xs ws) : ∀ p, H p = none → Q (.ref p) (upd H p (.lst xs)) := fun p h =>
  hp (m ++ [p]) _ (Ext.alloc h) (hm.alloc h ⟨xs, upd_same, r.mono (Ext.alloc h)⟩) (.ref p) (.r (at_last hm.len))
theorem RDs.length {vs : List V} {ds : List PyData} (r : RDs K m z H vs ds) : vs.length = ds.length := Paired.length (rws_of_rds r) |>.trans (by simp)
theorem RDs.get {vs : List V} {ds : List PyData} (r : RDs K m z H vs ds) {i : Nat} {d : PyData} (h : ds[i]? = some d) : ∃ v, vs[i]? = some v ∧ RD K m z H v d := by
  induction r using RDs.rec (motive_1 := fun _ _ _ => True) generalizing i with
  | nil => cases h
  | cons h1 h2 _ ih =>
    cases i with
    | zero =>
      cases h
      exact ⟨_, rfl, h1⟩
    | succ i => exact ih h
  | _ => trivial
theorem RWs.get {vs : List V} {ws : List W} (r : RWs K m z H vs ws) {i : Nat} {w : W} (h : ws[i]? = some w) : ∃ v, vs[i]? = some v ∧ RW K m z H v w := by
  induction r generalizing i with
  | nil => cases h
  | cons h1 h2 ih =>
    cases i with
    | zero =>
      cases h
      exact ⟨_, rfl, h1⟩
    | succ i => exact ih h
theorem RDs.drop {vs : List V} {ds : List PyData} (r : RDs K m z H vs ds) : ∀ n, RDs K m z H (vs.drop n) (ds.drop n) := by
  induction r using RDs.rec (motive_1 := fun _ _ _ => True) with
  | nil => exact fun n => by simpa using RDs.nil
  | cons h1 h2 _ ih =>
    intro n
    cases n with
    | zero => exact .cons h1 h2
    | succ n => exact ih n
  | _ => trivial
theorem RDs.take {vs : List V} {ds : List PyData} (r : RDs K m z H vs ds) : ∀ n, RDs K m z H (vs.take n) (ds.take n) := by
  induction r using RDs.rec (motive_1 := fun _ _ _ => True) with
  | nil => exact fun n => by simpa using RDs.nil
  | cons h1 h2 _ ih =>
    intro n
    cases n with
    | zero => exact .nil
    | succ n => exact .cons h1 (ih n)
  | _ => trivial
theorem RDs.append {vs us : List V} {ds es : List PyData} (r : RDs K m z H vs ds) (q : RDs K m z H us es) : RDs K m z H (vs ++ us) (ds ++ es) := by
  induction r using RDs.rec (motive_1 := fun _ _ _ => True) with
  | nil => exact q
  | cons h1 h2 _ ih => exact .cons h1 ih
  | _ => trivial
theorem RDs.reverse {vs : List V} {ds : List PyData} (r : RDs K m z H vs ds) : RDs K m z H vs.reverse ds.reverse := by
  induction r using RDs.rec (motive_1 := fun _ _ _ => True) with
  | nil => exact .nil
  | cons h1 h2 _ ih =>
    rw [List.reverse_cons, List.reverse_cons]
    exact ih.append (.cons h1 .nil)
  | _ => trivial
end
def dNil : DA := fun _ M => .ok [] M
def dCons (te : DE) (t : DA) : DA := fun ρ M => (te ρ M).bind fun w M1 => (t ρ M1).bind fun ws M2 => .ok (w :: ws) M2
def dTup (t : DA) : DE := fun ρ M => (t ρ M).bind fun ws M1 => match allD ws with
  | some ds => if ws.length ≤ 1000 then .ok (.d (.tuple ds)) M1 else .bot
  | none => .bot
def dLst (t : DA) : DE := fun ρ M => (t ρ M).bind fun ws M1 => match allD ws with
  | some ds => if ws.length ≤ 1000 then .ok (.d (.list ds)) M1 else .bot
  | none => .bot
/-- a list that will change: into the store -/
def dLstM (t : DA) : DE := fun ρ M => (t ρ M).bind fun ws M1 => if ws.length ≤ 1000 then .ok (.r M1.length) (M1 ++ [.lst ws]) else .bot
section
variable {X : Cx} {E : XK} {e a b c : Expr} {es : List Expr} {ta tb te : DE} {t : DA} {pos : Pos} {K : PySem.W.Frag}
theorem qa_nil : QA X E [] dNil := PA.imp pa_nil fun σ H Q ⟨m, z, ρ, M, hs, hm, hp⟩ => Post.now (k := kA X.K z Q) hp hm [] .nil
theorem qa_cons (he : QE X E e te) (hr : QA X E es t) (hs : starEach (e :: es) X.env = (false, eval e X.env) :: starEach es X.env := by rfl) : QA X E (e :: es) (dCons te t) :=
  PA.imp (pa_cons he hr hs) fun σ H Q ⟨m, z, ρ, M, hs, hm, hp⟩ => ⟨m, z, ρ, M, hs, hm, (Post.unbind hp).imp fun x M1 m1 H1 _ e1 hm1 hp1 v rv => ⟨m1, z, ρ, M1, hs.mono e1, hm1, (Post.unbind hp1).imp fun ws M2 m2 H2 _ e2 hm2 hp2 vs rvs =>
    Post.now (k := kA X.K z Q) hp2 hm2 (v :: vs) (.cons (rv.mono e2) rvs)⟩⟩
theorem s1000 {n : Nat} (h : n ≤ 1000) : n ≤ sizeLine := Nat.le_trans h (by decide)
theorem q_tup {k : Nat} (ht : QA X E es t) : QE X E (.Tuple es k pos) (dTup t) := PE.imp (pe_tup ht) fun σ H Q ⟨m, z, ρ, M, hs, hm, hp⟩ => ⟨m, z, ρ, M, hs, hm, (Post.unbind hp).imp fun ws M1 m1 H1 _ e1 hm1 hp1 vs rvs => by
  split at hp1
  · rename_i ds hd
    split at hp1
    · rename_i hl
      have hl' : vs.length ≤ 1000 := by rw [Paired.length rvs]; exact hl
      exact ⟨s1000 hl', post_tup hp1 hm1 (rds_of_rws hd rvs)⟩
    · exact hp1.elim
  · exact hp1.elim⟩
theorem q_lst (ht : QA X E es t) : QE X E (.List es pos) (dLst t) := PE.imp (pe_lst ht) fun σ H Q ⟨m, z, ρ, M, hs, hm, hp⟩ => ⟨m, z, ρ, M, hs, hm, (Post.unbind hp).imp fun ws M1 m1 H1 _ e1 hm1 hp1 vs rvs => by
  split at hp1
  · rename_i ds hd
    split at hp1
    · rename_i hl
      have hl' : vs.length ≤ 1000 := by rw [Paired.length rvs]; exact hl
      exact ⟨s1000 hl', post_lst hp1 hm1 (rds_of_rws hd rvs)⟩
    · exact hp1.elim
  · exact hp1.elim⟩
theorem q_lstM (ht : QA X E es t) : QE X E (.List es pos) (dLstM t) := PE.imp (pe_lst ht) fun σ H Q ⟨m, z, ρ, M, hs, hm, hp⟩ => ⟨m, z, ρ, M, hs, hm, (Post.unbind hp).imp fun ws M1 m1 H1 _ e1 hm1 hp1 vs rvs => by
  split at hp1
  · rename_i hl
    have hl' : vs.length ≤ 1000 := by rw [Paired.length rvs]; exact hl
    exact ⟨s1000 hl', post_lstM hp1 hm1 rvs⟩
  · exact hp1.elim⟩

def getI {α : Type} (l : List α) (i : Int) : Option α := if 0 ≤ i then l[i.toNat]? else if -(l.length : Int) ≤ i then l[(i + l.length).toNat]? else none
theorem getI_at {α : Type} {l : List α} {i : Int} {v : α} (h : getI l i = some v) : atI l i = some v := by
  unfold getI at h
  unfold atI ixN
  split at h
  · rename_i h0
    obtain ⟨h1, h2⟩ := List.getElem?_eq_some_iff.mp h
    rw [if_pos h0, if_pos (by omega)]
    exact h
  · rename_i h0
    split at h
    · rename_i h1
      rw [if_neg h0, if_pos h1]
      exact h
    · cases h
theorem getI_rds {m z : List Addr} {H : Hp} {vs : List V} {ds : List PyData} (r : RDs K m z H vs ds) {i : Int} {d : PyData} (h : getI ds i = some d) : ∃ v, getI vs i = some v ∧ RD K m z H v d := by
  unfold getI at h ⊢
  rw [r.length]
  split at h
  · rename_i h0
    rw [if_pos h0]
    exact r.get h
  · rename_i h0
    rw [if_neg h0]
    split at h
    · rename_i h1
      rw [if_pos h1]
      exact r.get h
    · cases h
theorem getI_rws {m z : List Addr} {H : Hp} {vs : List V} {ws : List W} (r : RWs K m z H vs ws) {i : Int} {w : W} (h : getI ws i = some w) : ∃ v, getI vs i = some v ∧ RW K m z H v w := by
  unfold getI at h ⊢
  rw [Paired.length r]
  split at h
  · rename_i h0
    rw [if_pos h0]
    exact RWs.get r h
  · rename_i h0
    rw [if_neg h0]
    split at h
    · rename_i h1
      rw [if_pos h1]
      exact RWs.get r h
    · cases h
def fIx : F2 := fun u w M => match w with
  | .d (.int i) => match u with
    | .d (.tuple ds) => match getI ds i with
      | some d => .ok (.d d) M
      | none => .bot
    | .d (.list ds) => match getI ds i with
      | some d => .ok (.d d) M
      | none => .bot
    | .d (.str x) => if x.length ≤ 1000000 then match getI x.cps.toList i with
      | some c => .ok (.d (.str ⟨#[c]⟩)) M
      | none => .bot
      else .bot
    | .r k => match M[k]? with
      | some (.lst ws) => match getI ws i with
        | some v => .ok v M
        | none => .bot
      | _ => .bot
    | _ => .bot
  | _ => .bot
theorem s1000000 {n : Nat} (h : n ≤ 1000000) : n ≤ sizeLine := Nat.le_trans h (by decide)
theorem b2_Ix : B2 K E (rIx K) fIx := by
  intro m z H M x y u w Q hm ru rw hp
  unfold fIx at hp
  split at hp
  · rename_i i
    cases rw with
    | d rw =>
    cases rw
    split at hp
    · rename_i ds
      cases ru with
      | d ru =>
      cases ru with
      | tup hl hs =>
        split at hp
        · rename_i d hd
          obtain ⟨v, h1, h2⟩ := getI_rds hs hd
          exact .inr (.inl ⟨_, _, i, v, rfl, rfl, hl.sq, getI_at h1, Post.now (k := kE K z Q) hp hm v (.d h2)⟩)
        · exact hp.elim
    · rename_i ds
      cases ru with
      | d ru =>
      cases ru with
      | lst hl hs =>
        split at hp
        · rename_i d hd
          obtain ⟨v, h1, h2⟩ := getI_rds hs hd
          exact .inl ⟨_, _, i, v, rfl, rfl, hl.sq, getI_at h1, Post.now (k := kE K z Q) hp hm v (.d h2)⟩
        · exact hp.elim
    · rename_i s
      cases ru with
      | d ru =>
      cases ru
      split at hp
      · rename_i hz
        split at hp
        · rename_i c hc
          exact .inr (.inr ⟨s, i, c, rfl, rfl, s1000000 hz, getI_at hc, Post.now (k := kE K z Q) hp hm _ (.d (.str _))⟩)
        · exact hp.elim
      · exact hp.elim
    · rename_i k
      cases ru with
      | r ha =>
        split at hp
        · rename_i ws hw
          obtain ⟨vs, h1, h2⟩ := hm.ob k _ _ hw ha
          split at hp
          · rename_i v hv
            obtain ⟨u, h3, h4⟩ := getI_rws h2 hv
            exact .inl ⟨_, _, i, u, rfl, rfl, SqL.of h1, getI_at h3, Post.now (k := kE K z Q) hp hm u h4⟩
          · exact hp.elim
        · exact hp.elim
    · exact hp.elim
  · exact hp.elim
theorem q_ix (ha : QE X E a ta) (hb : QE X E b tb) (hs : PlainIx b := by exact fun _ _ => rfl) : QE X E (.Subscript a b pos) (dBin fIx ta tb) := PE.imp (pe_ix ix_seq ha hb hs) (tOp_of b2_Ix)
/-- the part of a list from lo to hi -/
def cut {α : Type} (l : List α) (lo hi : Option Int) : List α := (l.drop (HT.sIx l.length 0 lo)).take (HT.sIx l.length l.length hi - HT.sIx l.length 0 lo)
abbrev DO := Rho → Mem → R (Option Int)
def dPart (te : DE) : DO := fun ρ M => (te ρ M).bind fun w M1 => match w with
  | .d (.int i) => .ok (some i) M1
  | _ => .bot
def dNoPart : DO := fun _ M => .ok none M
def kO (Q : Option Int → Hp → Prop) : Option Int → Mem → List Addr → Hp → Prop := fun o _ _ H' => Q o H'
def LO (K : PySem.W.Frag) (E : XK) (t : DO) : TO := fun σ H Q => ∃ m z ρ M, RS K m z H σ ρ ∧ RM K m z H M ∧ Post K z E m H (kO Q) (t ρ M)
theorem PO.imp {o : Option Expr} {t t' : TO} (h : PO X o t) (i : ∀ σ H Q, t' σ H Q → t σ H Q) : PO X o t' := ⟨fun pins s σ H Q I q => h.run pins s σ H Q I (i σ H Q q)⟩
def QO (X : Cx) (E : XK) (o : Option Expr) (t : DO) : Prop := PO X o (LO X.K E t)
theorem qo_none : QO X E none dNoPart := PO.imp po_none fun σ H Q ⟨m, z, ρ, M, hs, hm, hp⟩ => Post.now (k := kO Q) hp hm
theorem qo_some (he : QE X E e te) : QO X E (some e) (dPart te) := PO.imp (po_some he) fun σ H Q ⟨m, z, ρ, M, hs, hm, hp⟩ => ⟨m, z, ρ, M, hs, hm, (Post.unbind hp).imp fun w M1 m1 H1 _ e1 hm1 hp1 v rv => by
  split at hp1
  · cases rv with
    | d rv =>
    cases rv
    exact ⟨_, rfl, Post.now (k := kO Q) hp1 hm1⟩
  · exact hp1.elim⟩
def fSl (u : W) (lo hi : Option Int) (M : Mem) : R W := match rd M u with
  | some (.tuple ds) => .ok (.d (.tuple (cut ds lo hi))) M
  | some (.list ds) => .ok (.d (.list (cut ds lo hi))) M
  | _ => .bot
def dSl (te : DE) (tl th : DO) : DE := fun ρ M => (te ρ M).bind fun w M1 => (tl ρ M1).bind fun lo M2 => (th ρ M2).bind fun hi M3 => fSl w lo hi M3
theorem cut_rds {m z : List Addr} {H : Hp} {vs : List V} {ds : List PyData} (r : RDs K m z H vs ds) (lo hi : Option Int) : RDs K m z H (cutV vs lo hi) (cut ds lo hi) := by
  unfold cutV cut
  rw [r.length]
  exact (r.drop _).take _
theorem rd_lst {m z : List Addr} {H : Hp} {M : Mem} {w : W} {v : V} {ds : List PyData} (hm : RM K m z H M) (r : RW K m z H v w) (e : rd M w = some (.list ds)) : ∃ a vs, v = .ref a ∧ SqL K H a vs ∧ RDs K m z H vs ds := by
  cases r with
  | d r =>
    cases e
    cases r with
    | lst h hs => exact ⟨_, _, rfl, h.sq, hs⟩
  | p _ _ _ => cases e
  | r ha =>
    rename_i a i
    unfold rd at e
    cases hw : M[i]? with
    | none => simp [hw] at e
    | some o =>
      cases o with
      | lst ws =>
        simp only [hw] at e
        cases q : allD ws with
        | none => simp [q] at e
        | some es =>
          simp only [q, Option.map_some, Option.some.injEq, PyData.list.injEq] at e
          subst e
          obtain ⟨vs, h1, h2⟩ := hm.ob i _ a hw ha
          exact ⟨a, vs, rfl, SqL.of h1, rds_of_rws q h2⟩
      | dK _ => simp [hw] at e
      | ins _ _ => simp [hw] at e
      | tbl _ => simp [hw] at e
      | ltb _ _ => simp [hw] at e
theorem rd_tup {m z : List Addr} {H : Hp} {M : Mem} {w : W} {v : V} {ds : List PyData} (hm : RM K m z H M) (r : RW K m z H v w) (e : rd M w = some (.tuple ds)) : ∃ a vs, v = .ref a ∧ LvT K m z H a vs ∧ RDs K m z H vs ds := by
  cases r with
  | d r =>
    cases e
    cases r with
    | tup h hs => exact ⟨_, _, rfl, h, hs⟩
  | p _ _ _ => cases e
  | r ha =>
    rename_i a i
    unfold rd at e
    cases hw : M[i]? with
    | none => simp [hw] at e
    | some o =>
      cases o with
      | lst ws =>
        simp only [hw] at e
        cases q : allD ws <;> simp [q] at e
      | dK _ => simp [hw] at e
      | ins _ _ => simp [hw] at e
      | tbl _ => simp [hw] at e
      | ltb _ _ => simp [hw] at e
theorem q_sl {lo hi : Option Expr} {tl th : DO} {p2 : Pos} (he : QE X E e te) (hl : QO X E lo tl) (hh : QO X E hi th) : QE X E (.Subscript e (.Slice lo hi none p2) pos) (dSl te tl th) :=
  PE.imp (pe_slice (SlR.or sl_tupA sl_list) he hl hh) fun σ H Q ⟨m, z, ρ, M, hs, hm, hp⟩ => ⟨m, z, ρ, M, hs, hm, (Post.unbind hp).imp fun w M1 m1 H1 _ e1 hm1 hp1 v rv =>
    ⟨m1, z, ρ, M1, hs.mono e1, hm1, (Post.unbind hp1).imp fun l M2 m2 H2 _ e2 hm2 hp2 => ⟨m2, z, ρ, M2, (hs.mono e1).mono e2, hm2, (Post.unbind hp2).imp fun h M3 m3 H3 _ e3 hm3 hp3 => by
      have rv3 := (rv.mono e2).mono e3
      show rSlA X.K v l h H3 Q ∨ rSlL X.K v l h H3 Q
      unfold fSl at hp3
      split at hp3
      · rename_i ds hd
        obtain ⟨a, vs, rfl, h1, h2⟩ := rd_tup hm3 rv3 hd
        refine .inl ⟨a, vs, rfl, h1.sq, fun hw => ?_, fun _ => post_tup hp3 hm3 (cut_rds h2 l h)⟩
        refine Post.now (k := kE X.K z Q) hp3 hm3 (.ref a) (.d (.tup h1 ?_))
        have q : cut ds l h = ds := by
          unfold cut
          rw [← h2.length, hw.1, hw.2, List.drop_zero, h2.length, Nat.sub_zero, List.take_length]
        rw [q]
        exact h2
      · rename_i ds hd
        obtain ⟨a, vs, rfl, h1, h2⟩ := rd_lst hm3 rv3 hd
        exact .inr ⟨a, vs, rfl, h1, post_lst hp3 hm3 (cut_rds h2 l h)⟩
      · exact hp3.elim⟩⟩⟩
/-- xs[::-1] of a list -/
def fRev : F1 := fun u M => match rd M u with
  | some (.list ds) => .ok (.d (.list ds.reverse)) M
  | _ => .bot
def rCatS (K : PySem.W.Frag) : R2 := fun x y H Q => ∃ l b xs zs, x = .ref l ∧ y = .ref b ∧ SqL K H l xs ∧ SqL K H b zs ∧ xs.length + zs.length ≤ sizeLine ∧ ∀ p, H p = none → Q (.ref p) (upd H p (.lst (xs ++ zs)))
theorem op_catS : OpR X (binaryOp .Add) (rCatS X.K) := by
  intro pins s σ H x y v u Q I rx ry ⟨l, b, xs, zs, ex, ey, hl, hb, hz, q⟩
  subst ex ey
  cases rx
  cases ry
  obtain ⟨i1, r1, ⟨⟨c1, d1, t1, s1⟩, n1, g1, k1, _, e1⟩, _⟩ := I.list hl
  obtain ⟨i2, r2, ⟨⟨c2, d2, t2, s2⟩, n2, g2, k2, _, e2⟩, _⟩ := I.list hb
  simp only at k1 e1 k2 e2
  subst k1 e1 k2 e2
  have l1 := r1.length
  have l2 := r2.length
  have ee : i1.toArray ++ i2.toArray = (i1 ++ i2).toArray := by simp
  refine concat_meets ⟨_, g1, rfl⟩ ⟨_, g2, rfl⟩ noFill_list_add seq_list_add PySem.F.slot_list_add PySem.F.entry_list_add (PySem.F.args_list_add_2 _ _) (list_addW l b i1.toArray i2.toArray n1 n2 d1 d2 s1 s2 (by rw [List.size_toArray, List.size_toArray]; omega)) ⟨g1, g2, ?_⟩
  rw [ee]
  exact ⟨.ref _, _, I.lnew (t' := s.toks) (r1.append r2) (by rw [List.length_append]; omega), rfl, q _ I.fresh⟩
def fCat : F2 := fun u w M => match rd M u, rd M w with
  | some (.list xs), some (.list ys) => if xs.length + ys.length ≤ 1000000 then .ok (.d (.list (xs ++ ys))) M else .bot
  | some (.tuple xs), some (.tuple ys) => if xs.length + ys.length ≤ 1000000 then .ok (.d (.tuple (xs ++ ys))) M else .bot
  | some (.str x), some (.str y) => if x.length + y.length ≤ 1000000 then .ok (.d (.str (x ++ y))) M else .bot
  | some (.int i), some (.int j) => .ok (.d (.int (i + j))) M
  | _, _ => .bot
theorem rd_d {m z : List Addr} {H : Hp} {M : Mem} {w : W} {v : V} {d : PyData} (hm : RM K m z H M) (r : RW K m z H v w) (e : rd M w = some d) (nl : ∀ xs, d ≠ .list xs) : RD K m z H v d := by
  cases r with
  | d r =>
    cases e
    exact r
  | p _ _ _ => cases e
  | r ha =>
    rename_i a i
    unfold rd at e
    cases hw : M[i]? with
    | none => simp [hw] at e
    | some o =>
      cases o with
      | lst ws =>
        simp only [hw] at e
        cases q : allD ws with
        | none => simp [q] at e
        | some es =>
          simp only [q, Option.map_some, Option.some.injEq] at e
          exact absurd e.symm (nl es)
      | dK _ => simp [hw] at e
      | ins _ _ => simp [hw] at e
      | tbl _ => simp [hw] at e
      | ltb _ _ => simp [hw] at e
theorem q_cat (ha : QE X E a ta) (hb : QE X E b tb) : QE X E (.BinOp a .Add b pos) (dBin fCat ta tb) := by
  refine q_op (OpR.or op_catS (OpR.or op_catA (OpR.or op_add_str op_add))) ?_ ha hb
  intro m z H M x y u w Q hm ru rw hp
  unfold fCat at hp
  split at hp
  · rename_i xs ys h1 h2
    split at hp
    · rename_i hz
      obtain ⟨l, vs, rfl, a1, a2⟩ := rd_lst hm ru h1
      obtain ⟨l', vs', rfl, b1, b2⟩ := rd_lst hm rw h2
      exact .inl ⟨l, l', vs, vs', rfl, rfl, a1, b1, by rw [a2.length, b2.length]; exact s1000000 hz, post_lst hp hm (a2.append b2)⟩
    · exact hp.elim
  · rename_i xs ys h1 h2
    split at hp
    · rename_i hz
      obtain ⟨l, vs, rfl, a1, a2⟩ := rd_tup hm ru h1
      obtain ⟨l', vs', rfl, b1, b2⟩ := rd_tup hm rw h2
      refine .inr (.inl ⟨l, l', vs, vs', rfl, rfl, a1.sq, b1.sq, by rw [a2.length, b2.length]; exact s1000000 hz, fun e => ?_, fun _ e => ?_, fun _ _ => post_tup hp hm (a2.append b2)⟩)
      · subst e
        cases a2
        exact Post.now (k := kE X.K z Q) hp hm (.ref l') (.d (.tup b1 b2))
      · subst e
        cases b2
        rw [List.append_nil] at hp
        exact Post.now (k := kE X.K z Q) hp hm (.ref l) (.d (.tup a1 a2))
    · exact hp.elim
  · rename_i xs ys h1 h2
    split at hp
    · rename_i hz
      cases rd_d hm ru h1 (by simp)
      cases rd_d hm rw h2 (by simp)
      exact .inr (.inr (.inl ⟨_, _, rfl, rfl, s1000000 hz, Post.now (k := kE X.K z Q) hp hm _ (.d (.str _))⟩))
    · exact hp.elim
  · rename_i i j h1 h2
    cases rd_d hm ru h1 (by simp)
    cases rd_d hm rw h2 (by simp)
    exact .inr (.inr (.inr ⟨_, _, rfl, rfl, Post.now (k := kE X.K z Q) hp hm _ (.d (.int _))⟩))
  · exact hp.elim
end
end By
namespace By
open PySem L2
section
variable {X : Cx} {E : XK} {e a b c : Expr} {es rest : List Expr} {ta tb te tc : DE} {t : DA} {tt uu : DT} {pos : Pos} {K : PySem.W.Frag}
/-- a value that is True or False, as a test -/
def dB (te : DE) : DT := fun ρ M => (te ρ M).bind fun w M1 => match w with
  | .d (.bool b) => .ok b M1
  | _ => .bot
theorem tB_of : ∀ σ H Q, LT X.K E (dB te) σ H Q → tB (LE X.K E te) σ H Q := fun σ H Q ⟨m, z, ρ, M, hs, hm, hp⟩ => ⟨m, z, ρ, M, hs, hm, (Post.unbind hp).imp fun w M1 m1 H1 _ e1 hm1 hp1 v rv => by
  split at hp1
  · cases rv with
    | d rv =>
    cases rv
    exact ⟨_, rfl, Post.now (k := kT Q) hp1 hm1⟩
  · exact hp1.elim⟩
theorem qt_val (he : QE X E e te) (hi : ∀ whole, isTrue e X.env whole = (do let v ← whole; standAt e.pos; holding [v] (truthy v)) := by intro _; rfl) : QT X E e (dB te) := PT.imp (pt_val he hi) tB_of
theorem qt_cmp {op : CmpOp} {r : R2} {f : F2} (ho : OpR X (compareOp op) r) (hm : behindInMarks op b = false) (hr : B2 X.K E r f) (ha : QE X E a ta) (hb : QE X E b tb) : QT X E (.Compare a [op] [b] pos) (dB (dBin f ta tb)) :=
  PT.imp (pt_cmpR ho ha hb hm) fun σ H Q ⟨m, z, ρ, M, hs, hm, hp⟩ => tOp_of hr σ H _ ⟨m, z, ρ, M, hs, hm, (Post.unbind hp).imp fun w M1 m1 H1 _ e1 hm1 hp1 v rv => by
    split at hp1
    · cases rv with
      | d rv =>
      cases rv
      exact ⟨_, rfl, Post.now (k := kT Q) hp1 hm1⟩
    · exact hp1.elim⟩
theorem qt_lt (ha : QE X E a ta) (hb : QE X E b tb) : QT X E (.Compare a [.Lt] [b] pos) (dB (dBin fLt ta tb)) := qt_cmp op_lt (nomark _) b2_B0 ha hb
theorem qt_gt (ha : QE X E a ta) (hb : QE X E b tb) : QT X E (.Compare a [.Gt] [b] pos) (dB (dBin fGt ta tb)) := qt_cmp op_gt (nomark _) b2_B0 ha hb
theorem qt_ge (ha : QE X E a ta) (hb : QE X E b tb) : QT X E (.Compare a [.GtE] [b] pos) (dB (dBin fGe ta tb)) := qt_cmp op_ge (nomark _) b2_B0 ha hb
theorem qt_eq (hu : X.A.units + 200 < cLine) (ha : QE X E a ta) (hb : QE X E b tb) : QT X E (.Compare a [.Eq] [b] pos) (dB (dBin (fEq false) ta tb)) := qt_cmp (op_eqP hu) (nomark _) b2_Eq ha hb
theorem qt_ne (hu : X.A.units + 200 < cLine) (ha : QE X E a ta) (hb : QE X E b tb) : QT X E (.Compare a [.NotEq] [b] pos) (dB (dBin (fEq true) ta tb)) := qt_cmp (op_neP hu) (nomark _) b2_Eq ha hb
def isNW : W → Bool
  | .d .none => true
  | _ => false
/-- x is None as a test (neg: is not) -/
def dIsN (neg : Bool) (te : DE) : DT := fun ρ M => (te ρ M).bind fun w M1 => .ok (if neg then !isNW w else isNW w) M1
def dAnd (t u : DT) : DT := fun ρ M => (t ρ M).bind fun b M1 => if b = true then u ρ M1 else .ok false M1
def dOr (t u : DT) : DT := fun ρ M => (t ρ M).bind fun b M1 => if b = true then .ok true M1 else u ρ M1
def dNot (t : DT) : DT := fun ρ M => (t ρ M).bind fun b M1 => .ok (!b) M1
def QW (X : Cx) (E : XK) (e : Expr) (t : DT) : Prop := PW X e (LT X.K E t)
theorem qw_and1 (ha : QT X E a tt) : QW X E (.BoolOp .And [a] pos) tt := pw_and1 ha
theorem qw_or1 (ha : QT X E a tt) : QW X E (.BoolOp .Or [a] pos) tt := pw_or1 ha
theorem qw_and (ha : QT X E a tt) (hb : QW X E (.BoolOp .And (b :: rest) pos) uu) : QW X E (.BoolOp .And (a :: b :: rest) pos) (dAnd tt uu) :=
  PW.imp (pw_and ha hb) fun σ H Q ⟨m, z, ρ, M, hs, hm, hp⟩ => ⟨m, z, ρ, M, hs, hm, (Post.unbind hp).imp fun b M1 m1 H1 _ e1 hm1 hp1 => by
    cases b with
    | true => exact ⟨m1, z, ρ, M1, hs.mono e1, hm1, hp1⟩
    | false => exact Post.now (k := kT Q) hp1 hm1⟩
theorem qw_or (ha : QT X E a tt) (hb : QW X E (.BoolOp .Or (b :: rest) pos) uu) : QW X E (.BoolOp .Or (a :: b :: rest) pos) (dOr tt uu) :=
  PW.imp (pw_or ha hb) fun σ H Q ⟨m, z, ρ, M, hs, hm, hp⟩ => ⟨m, z, ρ, M, hs, hm, (Post.unbind hp).imp fun b M1 m1 H1 _ e1 hm1 hp1 => by
    cases b with
    | true => exact Post.now (k := kT Q) hp1 hm1
    | false => exact ⟨m1, z, ρ, M1, hs.mono e1, hm1, hp1⟩⟩
theorem qt_w (h : QW X E e tt) : QT X E e tt := PW.pt h
theorem qt_not (ha : QT X E a tt) : QT X E (.UnaryOp .Not a pos) (dNot tt) := PT.imp (pt_not ha) fun σ H Q ⟨m, z, ρ, M, hs, hm, hp⟩ => ⟨m, z, ρ, M, hs, hm, (Post.unbind hp).imp fun b M1 m1 H1 _ e1 hm1 hp1 => Post.now (k := kT Q) hp1 hm1⟩
/-- a value's truth -/
def truW (M : Mem) : W → Option Bool
  | .d .none => some false
  | .d (.bool b) => some b
  | .d (.int i) => some (i != 0)
  | .d (.str x) => if x.length ≤ 1000000 then some ((x.length : Int) != 0) else none
  | .d (.list xs) => some (!xs.isEmpty)
  | .d (.tuple xs) => some (!xs.isEmpty)
  | .d (.dict _) => none
  | .r i => match M[i]? with
    | some (.lst ws) => some (!ws.isEmpty)
    | some (.dK kvs) => some (!kvs.isEmpty)
    | _ => none
  | .p _ _ => none
def dTru (te : DE) : DT := fun ρ M => (te ρ M).bind fun w M1 => match truW M1 w with
  | some b => .ok b M1
  | none => .bot
def dIf (t : DT) (ta tb : DE) : DE := fun ρ M => (t ρ M).bind fun b M1 => if b = true then ta ρ M1 else tb ρ M1
def dAndV (ta tb : DE) : DE := fun ρ M => (ta ρ M).bind fun w M1 => match w with
  | .d (.bool b) => if b = true then tb ρ M1 else .ok (.d (.bool false)) M1
  | _ => .bot
def dOrV (ta tb : DE) : DE := fun ρ M => (ta ρ M).bind fun w M1 => match w with
  | .d (.bool b) => if b = true then .ok (.d (.bool true)) M1 else tb ρ M1
  | _ => .bot
def fNot : F1 := fun w M => match w with
  | .d (.bool b) => .ok (.d (.bool (!b))) M
  | _ => .bot
/-- -a, ~a of intsW -/
def fNeg : F1 := fun w M => match w with
  | .d (.int i) => .ok (.d (.int (-i))) M
  | _ => .bot
def fInv : F1 := fun w M => match w with
  | .d (.int i) => .ok (.d (.int (Builtin.bitNot i))) M
  | _ => .bot
def dFL (f : FL) (t : DA) : DE := fun ρ M => (t ρ M).bind fun ws M1 => f ws M1
theorem tCB_of {r : List V → Hp → VK → Prop} {f : FL} (hr : BL X.K E r f) : ∀ σ H Q, LE X.K E (dFL f t) σ H Q → tCB r (LA X.K E t) σ H Q := fun σ H Q ⟨m, z, ρ, M, hs, hm, hp⟩ =>
  ⟨m, z, ρ, M, hs, hm, (Post.unbind hp).imp fun ws M1 m1 H1 _ e1 hm1 hp1 vs rvs => hr m1 z H1 M1 vs ws Q hm1 rvs hp1⟩
theorem q_callB {id : String} {x : Str} {p : Pos} {r : List V → Hp → VK → Prop} {f : FL} (hc : CallR X (.builtin id) r) (hr : BL X.K E r f) (hg : Gl X x) (hm : X.mg x = none) (hv : bootBuiltins x = some (.builtin id)) (ha : QA X E (e :: es) t)
    (hn : x ≠ "__name__" := by decide) (hdb : (x == ("__debug__" : Str)) = false := by decide) (he : starEach (e :: es) X.env = (false, eval e X.env) :: starEach es X.env := by rfl) (hpl : (backTo pos (starEach es X.env)).any (·.1) = false := by rfl) :
    QE X E (.Call (.Name x p) (e :: es) [] pos) (dFL f t) := PE.imp (pe_callB hc hg hm hv ha hn hdb he hpl) (tCB_of hr)
theorem q_callTy {T : String} {x : Str} {p : Pos} {r : List V → Hp → VK → Prop} {f : FL} (hc : CallR X (.type T) r) (hr : BL X.K E r f) (hg : Gl X x) (hm : X.mg x = none) (hv : bootBuiltins x = some (.type T)) (ha : QA X E (e :: es) t)
    (hn : x ≠ "__name__" := by decide) (hdb : (x == ("__debug__" : Str)) = false := by decide) (he : starEach (e :: es) X.env = (false, eval e X.env) :: starEach es X.env := by rfl) (hpl : (backTo pos (starEach es X.env)).any (·.1) = false := by rfl) :
    QE X E (.Call (.Name x p) (e :: es) [] pos) (dFL f t) := PE.imp (pe_callTy hc hg hm hv ha hn hdb he hpl) (tCB_of hr)
/-- len -/
def fLen : FL := fun ws M => match ws with
  | [.d (.tuple ds)] => .ok (.d (.int ds.length)) M
  | [.d (.list ds)] => .ok (.d (.int ds.length)) M
  | [.d (.str x)] => if x.length ≤ 1000000 then .ok (.d (.int x.length)) M else .bot
  | [.r i] => match M[i]? with
    | some (.lst us) => .ok (.d (.int us.length)) M
    | _ => .bot
  | _ => .bot
theorem bl_len : BL K E (fun xs H Q => ∃ x n, xs = [x] ∧ LenV K x H n ∧ Q (.int n) H) fLen := by
  intro m z H M xs us Q hm r hp
  unfold fLen at hp
  split at hp
  · rename_i ds
    cases r with
    | cons r1 r2 =>
      cases r2
      cases r1 with
      | d r1 =>
      cases r1 with
      | tup h hs => exact ⟨_, _, rfl, .inr ⟨_, h.sq, rfl⟩, by rw [hs.length]; exact Post.now (k := kE K z Q) hp hm _ (.d (.int _))⟩
  · rename_i ds
    cases r with
    | cons r1 r2 =>
      cases r2
      cases r1 with
      | d r1 =>
      cases r1 with
      | lst h hs => exact ⟨_, _, rfl, .inl ⟨_, h.sq, rfl⟩, by rw [hs.length]; exact Post.now (k := kE K z Q) hp hm _ (.d (.int _))⟩
  · rename_i x
    split at hp
    · rename_i hl
      cases r with
      | cons r1 r2 =>
        cases r2
        cases r1 with
        | d r1 =>
        cases r1
        exact ⟨_, _, rfl, ⟨s1000000 hl, rfl⟩, Post.now (k := kE K z Q) hp hm _ (.d (.int _))⟩
    · exact hp.elim
  · rename_i i
    split at hp
    · rename_i us hw
      cases r with
      | cons r1 r2 =>
        cases r2
        cases r1 with
        | r ha =>
        obtain ⟨vs, h1, h2⟩ := hm.ob i _ _ hw ha
        exact ⟨_, _, rfl, .inl ⟨_, SqL.of h1, rfl⟩, by rw [Paired.length h2]; exact Post.now (k := kE K z Q) hp hm _ (.d (.int _))⟩
    · exact hp.elim
  · exact hp.elim
theorem q_len {p : Pos} (hg : Gl X "len") (hm : X.mg "len" = none) (ha : QE X E a ta) (hs : starEach [a] X.env = (false, eval a X.env) :: starEach [] X.env := by rfl) : QE X E (.Call (.Name "len" p) [a] [] pos) (dFL fLen (dCons ta dNil)) :=
  q_callB call_len bl_len hg hm (by decide +kernel) (qa_cons ha qa_nil hs) (he := hs)
/-- int -/
def fInt : FL := fun ws M => match ws with
  | [.d (.int i)] => .ok (.d (.int i)) M
  | [.d (.bool b)] => .ok (.d (.int (if b then 1 else 0))) M
  | _ => .bot
theorem q_int1 {p : Pos} (hg : Gl X "int") (hm : X.mg "int" = none) (ha : QE X E a ta) (hs : starEach [a] X.env = (false, eval a X.env) :: starEach [] X.env := by rfl) : QE X E (.Call (.Name "int" p) [a] [] pos) (dFL fInt (dCons ta dNil)) := by
  refine q_callTy call_int1 ?_ hg hm (by decide +kernel) (qa_cons ha qa_nil hs) (he := hs)
  intro m z H M xs us Q hm r hp
  unfold fInt at hp
  split at hp
  · cases r with
    | cons r1 r2 =>
      cases r2
      cases r1 with
      | d r1 =>
      cases r1
      exact .inl ⟨_, rfl, Post.now (k := kE X.K z Q) hp hm _ (.d (.int _))⟩
  · cases r with
    | cons r1 r2 =>
      cases r2
      cases r1 with
      | d r1 =>
      cases r1
      exact .inr ⟨_, rfl, Post.now (k := kE X.K z Q) hp hm _ (.d (.int _))⟩
  · exact hp.elim
/-- a list of intsW -/
def allI : List PyData → Option (List Int)
  | [] => some []
  | .int i :: ds => (allI ds).map (i :: ·)
  | _ :: _ => none
theorem rds_ints {m z : List Addr} {H : Hp} : ∀ (ns : List Int), RDs K m z H (ns.map V.int) (ns.map PyData.int)
  | [] => .nil
  | n :: ns => .cons (.int n) (rds_ints ns)
/-- intsW of a list value -/
def intsW (M : Mem) (w : W) : Option (List Int) := match rd M w with
  | some (.list ds) => allI ds
  | _ => none
def minL : List Int → Int
  | [] => 0
  | [i] => i
  | i :: ns => min i (minL ns)
def maxL : List Int → Int
  | [] => 0
  | [i] => i
  | i :: ns => max i (maxL ns)
def fMinL : FL := fun ws M => match ws with
  | [w] => match intsW M w with
    | some (i :: ns) => .ok (.d (.int (minL (i :: ns)))) M
    | _ => .bot
  | _ => .bot
def fMaxL : FL := fun ws M => match ws with
  | [w] => match intsW M w with
    | some (i :: ns) => .ok (.d (.int (maxL (i :: ns)))) M
    | _ => .bot
  | _ => .bot
/-- sorted(list of intsW) -/
def leI (i j : Int) : Bool := decide (i ≤ j)
def sortI (ns : List Int) : List Int := ns.mergeSort leI
def fSorted : FL := fun ws M => match ws with
  | [w] => match intsW M w with
    | some ns => .ok (.d (.list ((sortI ns).map .int))) M
    | none => .bot
  | _ => .bot
/-- tuple(x), list(x) of a list or a tuple -/
def fTuple : FL := fun ws M => match ws with
  | [w] => match rd M w with
    | some (.list ds) => .ok (.d (.tuple ds)) M
    | some (.tuple ds) => .ok (.d (.tuple ds)) M
    | _ => .bot
  | _ => .bot
def fList : FL := fun ws M => match ws with
  | [w] => match rd M w with
    | some (.list ds) => .ok (.d (.list ds)) M
    | some (.tuple ds) => .ok (.d (.list ds)) M
    | _ => .bot
  | _ => .bot
theorem q_tuple {p : Pos} (hg : Gl X "tuple") (hm : X.mg "tuple" = none) (ha : QE X E a ta) (hs : starEach [a] X.env = (false, eval a X.env) :: starEach [] X.env := by rfl) : QE X E (.Call (.Name "tuple" p) [a] [] pos) (dFL fTuple (dCons ta dNil)) := by
  refine q_callTy call_tuple_of ?_ hg hm (by decide +kernel) (qa_cons ha qa_nil hs) (he := hs)
  intro m z H M xs us Q hm r hp
  unfold fTuple at hp
  split at hp
  · cases r with
    | cons r1 r2 =>
      cases r2
      split at hp
      · rename_i ds hd
        obtain ⟨a, vs, rfl, h1, h2⟩ := rd_lst hm r1 hd
        exact ⟨a, vs, rfl, .inl ⟨h1, post_tup hp hm h2⟩⟩
      · rename_i ds hd
        obtain ⟨a, vs, rfl, h1, h2⟩ := rd_tup hm r1 hd
        exact ⟨a, vs, rfl, .inr ⟨h1.sq, Post.now (k := kE X.K z Q) hp hm _ (.d (.tup h1 h2))⟩⟩
      · exact hp.elim
  · exact hp.elim
/-- list(range(n)), list(range(a, b)), with the ranges' ends -/
abbrev DR := Rho → Mem → R (Int × Int)
def dRg1 (ta : DE) : DR := fun ρ M => (ta ρ M).bind fun w M1 => match w with
  | .d (.int n) => .ok (0, n) M1
  | _ => .bot
def dRg2 (ta tb : DE) : DR := fun ρ M => (ta ρ M).bind fun u M1 => (tb ρ M1).bind fun w M2 => match u, w with
  | .d (.int i), .d (.int j) => .ok (i, j) M2
  | _, _ => .bot
def kR (Q : Int → Int → Hp → Prop) : Int × Int → Mem → List Addr → Hp → Prop := fun p _ _ H' => Q p.1 p.2 H'
def LR (K : PySem.W.Frag) (E : XK) (t : DR) : St → Hp → (Int → Int → Hp → Prop) → Prop := fun σ H Q => ∃ m z ρ M, RS K m z H σ ρ ∧ RM K m z H M ∧ Post K z E m H (kR Q) (t ρ M)
theorem PRg.imp {e : Expr} {t t' : St → Hp → (Int → Int → Hp → Prop) → Prop} (h : PRg X e t) (i : ∀ σ H Q, t' σ H Q → t σ H Q) : PRg X e t' := fun pins s σ H Q I q => h pins s σ H Q I (i σ H Q q)
def QR (X : Cx) (E : XK) (e : Expr) (t : DR) : Prop := PRg X e (LR X.K E t)
/-- lo, lo + 1, .. below hi -/
def rgI (lo hi : Int) : List Int := (List.range (hi - lo).toNat).map fun (i : Nat) => lo + (i : Int)
def okRg (lo hi : Int) : Bool := decide (-1000000 ≤ lo ∧ lo ≤ 1000000 ∧ -1000000 ≤ hi ∧ hi ≤ 1000000)
theorem okRg_ok {lo hi : Int} (h : okRg lo hi = true) : RgOk lo hi := by
  have q := of_decide_eq_true h
  refine ⟨by omega, by omega, by omega, by omega, ?_⟩
  have : (hi - lo).toNat ≤ 2000000 := by omega
  omega
def dListRg (t : DR) : DE := fun ρ M => (t ρ M).bind fun p M1 => if okRg p.1 p.2 = true then .ok (.d (.list ((rgI p.1 p.2).map .int))) M1 else .bot
end
end By
namespace By
open PySem L2
inductive Tg where
  | name (i : Nat)
  | tup (is : List Nat)
  | nest (i : Nat) (is : List Nat)
def gNs : List Nat → TGs
  | [] => gNil
  | i :: is => gCons (gName i) (gNs is)
def Tg.g (K : PySem.W.Frag) : Tg → TG
  | .name i => gName i
  | .tup is => gTup K is.length (gNs is)
  | .nest i is => gTup K 2 (gCons (gName i) (gCons (gTup K is.length (gNs is)) gNil))
def setAll : List Nat → List PyData → Rho → Rho
  | i :: is, d :: ds, ρ => setAll is ds (ρ.set i (some (.d d)))
  | _, _, ρ => ρ
def Tg.den : Tg → W → Rho → Option Rho
  | .name i, w, ρ => some (ρ.set i (some w))
  | .tup is, .d (.tuple ds), ρ => if ds.length = is.length then some (setAll is ds ρ) else none
  | .tup [i, j], .p u w, ρ => some ((ρ.set i (some u)).set j (some w))
  | .tup _, _, _ => none
  | .nest i is, .d (.tuple [d, .tuple ds]), ρ => if ds.length = is.length then some (setAll is ds (ρ.set i (some (.d d)))) else none
  | .nest _ _, _, _ => none
def Tg.slots : Tg → List Nat
  | .name i => [i]
  | .tup is => is
  | .nest i is => i :: is
def wipeR : Rho → List Nat → Rho
  | ρ, [] => ρ
  | ρ, v :: vs => (wipeR ρ vs).set v none
theorem set_set_same {α : Type} (l : List α) (i : Nat) (a b : α) : (l.set i a).set i b = l.set i b := by simp
theorem wipe_set {σ : St} {i : Nat} {x : Option V} : ∀ {vs : List Nat}, i ∈ vs → wipe (σ.set i x) vs = wipe σ vs
  | v :: vs, h => by
    show (wipe (σ.set i x) vs).set v none = (wipe σ vs).set v none
    by_cases hv : i ∈ vs
    · rw [wipe_set hv]
    · have e : i = v := by
        rcases List.mem_cons.mp h with q | q
        · exact q
        · exact absurd q hv
      subst e
      have go : ∀ {us : List Nat}, i ∉ us → wipe (σ.set i x) us = (wipe σ us).set i x := by
        intro us
        induction us with
        | nil => exact fun _ => rfl
        | cons u us ih =>
          intro hu
          show (wipe (σ.set i x) us).set u none = ((wipe σ us).set u none).set i x
          rw [ih (fun q => hu (List.mem_cons_of_mem _ q)), List.set_comm _ _ (fun q => hu (by rw [q]; exact List.mem_cons_self))]
      rw [go hv, set_set_same]
theorem wipe_wipe {σ : St} : ∀ {vs us : List Nat}, (∀ v ∈ us, v ∈ vs) → wipe (wipe σ us) vs = wipe σ vs
  | vs, [], _ => rfl
  | vs, u :: us, h => by
    show wipe ((wipe σ us).set u none) vs = wipe σ vs
    rw [wipe_set (h u List.mem_cons_self), wipe_wipe fun v hv => h v (List.mem_cons_of_mem _ hv)]
section
variable {K : PySem.W.Frag} {m z : List Addr} {H : Hp} {σ : St} {ρ ρ' : Rho}
theorem RS.wiped (h : RS K m z H σ ρ) : ∀ vs, RS K m z H (wipe σ vs) (wipeR ρ vs)
  | [] => h
  | v :: vs => by
    have ih := RS.wiped h vs
    refine ⟨by show ((wipe σ vs).set v none).length = ((wipeR ρ vs).set v none).length; rw [List.length_set, List.length_set]; exact ih.1, fun i w q => ?_⟩
    have q' : ((wipeR ρ vs).set v none)[i]? = some (some w) := q
    by_cases hi : v = i
    · subst hi
      by_cases hl : v < (wipeR ρ vs).length
      · rw [List.getElem?_set_self hl] at q'
        cases q'
      · rw [List.getElem?_eq_none (by rw [List.length_set]; omega)] at q'
        cases q'
    · rw [List.getElem?_set_ne hi] at q'
      obtain ⟨x, h1, h2⟩ := ih.2 i w q'
      exact ⟨x, by show ((wipe σ vs).set v none)[i]? = _; rw [List.getElem?_set_ne hi]; exact h1, h2⟩
theorem gNs_run : ∀ {is : List Nat} {ds : List PyData} {xs : List V} {σ : St} {ρ : Rho}, RS K m z H σ ρ → RDs K m z H xs ds → ds.length = is.length →
    ∃ σ', (∀ Q : St → Hp → Prop, Q σ' H → gNs is xs σ H Q) ∧ RS K m z H σ' (setAll is ds ρ) ∧ ∀ vs, (∀ i ∈ is, i ∈ vs) → wipe σ' vs = wipe σ vs
  | [], [], _, σ, ρ, hs, .nil, _ => ⟨σ, fun Q q => ⟨rfl, q⟩, hs, fun _ _ => rfl⟩
  | i :: is, d :: ds, x :: xs, σ, ρ, hs, .cons h ht, hl => by
    obtain ⟨σ', h1, h2, h3⟩ := gNs_run (is := is) (ds := ds) (hs.set (i := i) (RW.d h)) ht (by simpa using hl)
    refine ⟨σ', fun Q q => ⟨x, xs, rfl, h1 Q q⟩, h2, fun vs hv => ?_⟩
    rw [h3 vs fun j hj => hv j (List.mem_cons_of_mem _ hj), wipe_set (hv i List.mem_cons_self)]
  | [], d :: ds, _, _, _, _, _, hl => by simp at hl
  | i :: is, [], _, _, _, _, _, hl => by simp at hl
theorem Tg.run {tg : Tg} {v : V} {w : W} (hs : RS K m z H σ ρ) (r : RW K m z H v w) (e : tg.den w ρ = some ρ') :
    ∃ σ', (∀ Q : St → Hp → Prop, Q σ' H → tg.g K v σ H Q) ∧ RS K m z H σ' ρ' ∧ ∀ vs, (∀ i ∈ tg.slots, i ∈ vs) → wipe σ' vs = wipe σ vs := by
  cases tg with
  | name i =>
    cases e
    exact ⟨σ.set i (some v), fun Q q => q, hs.set r, fun vs hv => wipe_set (hv i (List.mem_singleton.mpr rfl))⟩
  | tup is =>
    cases r with
    | r _ =>
      cases is with
      | nil => cases e
      | cons i is => cases is with
        | nil => cases e
        | cons j is => cases is <;> cases e
    | p h r1 r2 =>
      cases is with
      | nil => cases e
      | cons i is =>
      cases is with
      | nil => cases e
      | cons j is =>
      cases is with
      | cons _ _ => cases e
      | nil =>
      cases e
      refine ⟨_, fun Q q => ⟨_, _, rfl, h.sq, rfl, _, _, rfl, _, _, rfl, rfl, q⟩, (hs.set r1).set r2, fun vs hv => ?_⟩
      have hj : j ∈ vs := hv j (List.mem_cons_of_mem _ List.mem_cons_self)
      have hi : i ∈ vs := hv i List.mem_cons_self
      rw [wipe_set hj, wipe_set hi]
    | d r =>
      cases r with
      | tup h hx =>
        rename_i a xs ds
        have e' : (if ds.length = is.length then some (setAll is ds ρ) else none) = some ρ' := by
          cases is with
          | nil => exact e
          | cons i is => cases is with
            | nil => exact e
            | cons j is => cases is <;> exact e
        clear e
        have e := e'
        split at e
        · rename_i hl
          cases e
          obtain ⟨σ', h1, h2, h3⟩ := gNs_run hs hx hl
          exact ⟨σ', fun Q q => ⟨_, _, rfl, h.sq, hx.length.trans hl, h1 Q q⟩, h2, h3⟩
        · cases e
      | _ =>
        cases is with
        | nil => cases e
        | cons i is => cases is with
          | nil => cases e
          | cons j is => cases is <;> cases e
  | nest i is =>
    cases r with
    | r _ => cases e
    | p _ _ _ => cases e
    | d r =>
    cases r with
    | tup h hx =>
      cases hx with
      | nil => cases e
      | cons r1 hx =>
      cases hx with
      | nil => cases e
      | cons r2 hx =>
      cases hx with
      | cons _ _ => cases r2 <;> cases e
      | nil =>
      cases r2 with
      | tup h2 hx2 =>
        rename_i ds2
        have e' : (if ds2.length = is.length then some (setAll is ds2 (ρ.set i (some (.d _)))) else none) = some ρ' := e
        split at e'
        · rename_i hl
          cases e'
          obtain ⟨σ', k1, k2, k3⟩ := gNs_run (hs.set (i := i) (RW.d r1)) hx2 hl
          refine ⟨σ', fun Q q => ⟨_, _, rfl, h.sq, rfl, _, _, rfl, _, _, rfl, ⟨_, _, rfl, h2.sq, hx2.length.trans hl, k1 _ ⟨rfl, q⟩⟩⟩, k2, fun vs hv => ?_⟩
          rw [k3 vs fun j hj => hv j (List.mem_cons_of_mem _ hj), wipe_set (hv i List.mem_cons_self)]
        · cases e'
      | _ => cases e
    | _ => cases e
end
section
variable {X : Cx} {E : XK} {e a b c tgE iter : Expr} {es : List Expr} {sts body els : List Stmt} {st : Stmt} {ta tb te : DE} {t : DA} {tt uu : DT} {pos : Pos} {K : PySem.W.Frag} {u v w : DS} {tg : Tg}
def dSkip : DS := fun ρ M => .ok (.nx ρ) M
def dSeq (t u : DS) : DS := fun ρ M => (t ρ M).bind fun o M1 => match o with
  | .nx ρ1 => u ρ1 M1
  | .rt w => .ok (.rt w) M1
  | .bk ρ1 => .ok (.bk ρ1) M1
  | .ct ρ1 => .ok (.ct ρ1) M1
theorem qss_nil : QSs X E [] dSkip := PSs.imp pss_nil fun D σ H ⟨m, z, ρ, M, hs, hm, hp⟩ => Post.now (k := kS X.K z D) hp hm σ hs
theorem qss_one (h : QS X E st u) : QSs X E [st] u := pss_one h
theorem qss_cons (h : QS X E st u) (hr : QSs X E sts v) : QSs X E (st :: sts) (dSeq u v) := PSs.imp (pss_cons h hr) fun D σ H ⟨m, z, ρ, M, hs, hm, hp⟩ => ⟨m, z, ρ, M, hs, hm, (Post.unbind hp).imp fun o M1 m1 H1 _ e1 hm1 hp1 => by
  cases o with
  | nx ρ1 => exact fun σ1 hs1 => ⟨m1, z, ρ1, M1, hs1, hm1, hp1⟩
  | rt w => exact Post.now (k := kS X.K z D) hp1 hm1
  | bk ρ1 => exact Post.now (k := kS X.K z D) hp1 hm1
  | ct ρ1 => exact Post.now (k := kS X.K z D) hp1 hm1⟩
def dBreak : DS := fun ρ M => .ok (.bk ρ) M
def dCont : DS := fun ρ M => .ok (.ct ρ) M
def dExpr (te : DE) : DS := fun ρ M => (te ρ M).bind fun _ M1 => .ok (.nx ρ) M1
theorem RS.ext {m m' z : List Addr} {H H' : Hp} {σ : St} {ρ : Rho} (hs : RS K m z H σ ρ) (e : Ext m H m' H') : RS K m' z H' σ ρ := hs.mono e
theorem qs_expr (he : QE X E e te) (hs : swapsWith e none pos.line X.env = pure false := by rfl) : QS X E (.Expr e pos) (dExpr te) := PS.imp (ps_expr he hs) fun D σ H ⟨m, z, ρ, M, hs, hm, hp⟩ => ⟨m, z, ρ, M, hs, hm, (Post.unbind hp).imp fun w M1 m1 H1 _ e1 hm1 hp1 v rv =>
  Post.now (k := kS X.K z D) hp1 hm1 σ (hs.mono e1)⟩
def dRet (te : DE) : DS := fun ρ M => (te ρ M).bind fun w M1 => .ok (.rt w) M1
def dRetN : DS := fun _ M => .ok (.rt (.d .none)) M
theorem qs_ret (he : QE X E e te) : QS X E (.Return (some e) pos) (dRet te) := PS.imp (ps_ret he) fun D σ H ⟨m, z, ρ, M, hs, hm, hp⟩ => ⟨m, z, ρ, M, hs, hm, (Post.unbind hp).imp fun w M1 m1 H1 _ e1 hm1 hp1 v rv => Post.now (k := kS X.K z D) hp1 hm1 v rv⟩
def dIfS (t : DT) (u v : DS) : DS := fun ρ M => (t ρ M).bind fun b M1 => if b = true then u ρ M1 else v ρ M1
theorem qs_if (hc : QT X E c tt) (ha : QSs X E body u) (hb : QSs X E els v) : QS X E (.If c body els pos) (dIfS tt u v) := PS.imp (ps_if hc ha hb) fun D σ H ⟨m, z, ρ, M, hs, hm, hp⟩ => ⟨m, z, ρ, M, hs, hm, (Post.unbind hp).imp fun b M1 m1 H1 _ e1 hm1 hp1 => by
  cases b with
  | true => exact ⟨m1, z, ρ, M1, hs.mono e1, hm1, hp1⟩
  | false => exact ⟨m1, z, ρ, M1, hs.mono e1, hm1, hp1⟩⟩
/-- name = e -/
def dSet (i : Nat) (te : DE) : DS := fun ρ M => (te ρ M).bind fun w M1 => .ok (.nx (ρ.set i (some w))) M1
theorem tAsg_name {i : Nat} {t : TE} (h : ∀ σ H Q, LE X.K E te σ H Q → t σ H Q) : ∀ D σ H, LSt X.K E (dSet i te) D σ H → tAsg t (gName i) D σ H := fun D σ H ⟨m, z, ρ, M, hs, hm, hp⟩ =>
  h σ H _ ⟨m, z, ρ, M, hs, hm, (Post.unbind hp).imp fun w M1 m1 H1 _ e1 hm1 hp1 v rv => Post.now (k := kS X.K z D) hp1 hm1 _ ((hs.mono e1).set rv)⟩
theorem qs_set {i : Nat} {x : Str} {pos' : Pos} (hN : X.N.Nodup) (hi : X.N[i]? = some x) (hx : Loc X.env.scope x) (he : QE X E e te) (hs : swapsWith e (some (.Name x pos')) pos.line X.env = pure false := by rfl)
    (hf : X.fn x = true ∨ X.env.scope.names.lookup x = some .local := by first | exact .inl rfl | exact .inr rfl | assumption) : QS X E (.Assign [.Name x pos'] e pos) (dSet i te) := PS.imp (ps_set hN hi hx he hs hf) (tAsg_name fun _ _ _ h => h)
/-- a, b = e, e a tuple -/
def dSetTg (tg : Tg) (te : DE) : DS := fun ρ M => (te ρ M).bind fun w M1 => match tg.den w ρ with
  | some ρ' => .ok (.nx ρ') M1
  | none => .bot
theorem qs_setTg (he : QE X E e te) (hg : PG X tgE (tg.g X.K)) (hs : swapsWithSole [tgE] e pos.line X.env = pure false := by rfl) (hw : swappedStores [tgE] e X.env = pure none := by rfl)
    (h1 : (assignEach [tgE] X.env).map (·.2) = [assign tgE X.env] := by rfl) : QS X E (.Assign [tgE] e pos) (dSetTg tg te) := PS.imp (ps_asg he hg hs hw h1) fun D σ H ⟨m, z, ρ, M, hs, hm, hp⟩ => ⟨m, z, ρ, M, hs, hm, (Post.unbind hp).imp fun w M1 m1 H1 _ e1 hm1 hp1 v rv => by
    split at hp1
    · rename_i ρ' hd
      obtain ⟨σ', h1, h2, _⟩ := Tg.run (hs.mono e1) rv hd
      exact h1 _ (Post.now (k := kS X.K z D) hp1 hm1 σ' h2)
    · exact hp1.elim⟩
/-- a, b = x, y -/
def dPar (i j : Nat) (t : DA) : DS := fun ρ M => (t ρ M).bind fun ws M1 => match ws with
  | [u, w] => .ok (.nx ((ρ.set i (some u)).set j (some w))) M1
  | _ => .bot
theorem qs_par {i j : Nat} {x y : Str} {px py pt pt2 : Pos} {kt k2 : Nat} (h : PS X (.Assign [.Tuple [.Name x px, .Name y py] kt pt] (.Tuple [a, b] k2 pt2) pos) (tPar i j (LA X.K E t))) :
    QS X E (.Assign [.Tuple [.Name x px, .Name y py] kt pt] (.Tuple [a, b] k2 pt2) pos) (dPar i j t) := PS.imp h fun D σ H ⟨m, z, ρ, M, hs, hm, hp⟩ => ⟨m, z, ρ, M, hs, hm, (Post.unbind hp).imp fun ws M1 m1 H1 _ e1 hm1 hp1 vs rvs => by
    split at hp1
    · cases rvs with
      | cons r1 r2 =>
      cases r2 with
      | cons r2 r3 =>
      cases r3
      exact ⟨_, _, rfl, Post.now (k := kS X.K z D) hp1 hm1 _ (((hs.mono e1).set r1).set r2)⟩
    · exact hp1.elim⟩
/-- x op= e, x a name -/
def dAug (i : Nat) (f : F2) (te : DE) : DS := fun ρ M => match ρ[i]? with
  | some (some u) => (te ρ M).bind fun w M1 => (f u w M1).bind fun r M2 => .ok (.nx (ρ.set i (some r))) M2
  | _ => .bot
def wloop (c : DT) (b : DS) : Nat → DS
  | 0 => fun _ _ => .bot
  | n + 1 => fun ρ M => (c ρ M).bind fun k M1 => if k = true then (b ρ M1).bind fun o M2 => match o with
    | .nx ρ2 => wloop c b n ρ2 M2
    | .ct ρ2 => wloop c b n ρ2 M2
    | .bk ρ2 => .ok (.nx ρ2) M2
    | .rt w => .ok (.rt w) M2
    else .ok (.nx ρ) M1
/-- enough turns for all that is met -/
def fuel : Rho → Mem → Nat := fun _ _ => 1000000
/-- fu: enough turns -/
def dWhile (fu : Rho → Mem → Nat) (c : DT) (b : DS) : DS := fun ρ M => wloop c b (fu ρ M) ρ M
/-- the list of the store that must stand still, with what it holds -/
abbrev Gd := Option (Nat × List W)
abbrev DI := Rho → Mem → R (List W × Gd)
/-- the walked list of the store stands still -/
def gOk (g : Gd) (ws : List W) (M : Mem) : Prop := ∀ k us, g = some (k, us) → M[k]? = some (.lst us)
def ItOk (K : PySem.W.Frag) (z : List Addr) (J : It) (ws : List W) (g : Gd) (m0 : List Addr) (H0 : Hp) : Prop :=
  ∀ (i : Nat) (m : List Addr) (z' : List Addr) (H : Hp) (M : Mem), Ext m0 H0 m H → (∀ a ∈ z', a ∈ z ∨ H0 a = none) → RM K m z' H M → gOk g ws M → (∀ w, ws[i]? = some w → J.go i H ∧ ∀ x H', J.yld i H x H' → Ext m H m H' ∧ RM K m z' H' M ∧ (∀ a o, H a = some o → H' a = some o) ∧ RW K m z' H' x w) ∧ (ws.length ≤ i → J.stop i H)
def kI (K : PySem.W.Frag) (z : List Addr) (R : It → Hp → Prop) : List W × Gd → Mem → List Addr → Hp → Prop := fun p M' m' H' => gOk p.2 p.1 M' → ∀ J, ItOk K z J p.1 p.2 m' H' → R J H'
def LI (K : PySem.W.Frag) (E : XK) (ti : DI) : TI := fun σ H R => ∃ m z ρ M, RS K m z H σ ρ ∧ RM K m z H M ∧ Post K z E m H (kI K z R) (ti ρ M)
def QI (X : Cx) (E : XK) (tgE iter : Expr) (ti : DI) : Prop := PI X tgE iter (LI X.K E ti)
theorem PI.imp {wi wi' : TI} (h : PI X tgE iter wi) (i : ∀ σ H R, wi' σ H R → wi σ H R) : PI X tgE iter wi' := ⟨fun pins s σ H R I q => h.run pins s σ H R I (i σ H R q)⟩
theorem PI.or {wi wi' : TI} (h : PI X tgE iter wi) (h' : PI X tgE iter wi') : PI X tgE iter (fun σ H R => wi σ H R ∨ wi' σ H R) := ⟨fun pins s σ H R I q => q.elim (h.run pins s σ H R I) (h'.run pins s σ H R I)⟩
def seqW (M : Mem) : W → Option (List W × Gd)
  | .d (.list ds) => some (ds.map .d, none)
  | .d (.tuple ds) => some (ds.map .d, none)
  | .r k => match M[k]? with
    | some (.lst ws) => some (ws, some (k, ws))
    | _ => none
  | _ => none
def dSeqI (te : DE) : DI := fun ρ M => (te ρ M).bind fun w M1 => match seqW M1 w with
  | some p => .ok p M1
  | none => .bot
theorem extGo2 {m m' z z' : List Addr} {H H' : Hp} (e : Ext m H m' H') (hz : ∀ a ∈ z', a ∈ z ∨ H a = none) : ∀ a o, H a = some o → a ∉ m → a ∉ z → H' a = some o ∧ a ∉ m' ∧ a ∉ z' := fun a o h h1 h2 => ⟨e.kp a o h h1, e.notin h h1, fun q => by
  rcases hz a q with r | r
  · exact h2 r
  · rw [h] at r
    cases r⟩
theorem rds_go {m z : List Addr} {H : Hp} {vs : List V} {ds : List PyData} (r : RDs K m z H vs ds) {i : Nat} {w : W} (h : (ds.map W.d)[i]? = some w) : ∃ v, vs[i]? = some v ∧ RW K m z H v w := by
  rw [List.getElem?_map] at h
  cases q : ds[i]? with
  | none =>
    rw [q] at h
    cases h
  | some d =>
    rw [q] at h
    cases h
    obtain ⟨v, h1, h2⟩ := r.get q
    exact ⟨v, h1, .d h2⟩
theorem q_seqI (he : QE X E iter te) : QI X E tgE iter (dSeqI te) := by
  refine PI.imp (PI.or (pi_list he) (pi_tup he)) fun σ H R ⟨m, z, ρ, M, hs, hm, hp⟩ => ?_
  have hp' : Post X.K z E m H (kI X.K z R) ((te ρ M).bind fun w M1 => match seqW M1 w with
    | some p => .ok p M1
    | none => .bot) := hp
  cases ht : te ρ M with
  | bot =>
    rw [ht] at hp'
    exact hp'.elim
  | ex x M1 =>
    rw [ht] at hp'
    exact .inl ⟨m, z, ρ, M, hs, hm, by rw [ht]; exact hp'⟩
  | ok w M1 =>
    rw [ht] at hp'
    have hp2 : Post X.K z E m H (kI X.K z R) (match seqW M1 w with
      | some p => By.R.ok p M1
      | none => .bot) := hp'
    by_cases htup : ∃ ds, w = .d (.tuple ds)
    · obtain ⟨ds, rfl⟩ := htup
      refine .inr ⟨m, z, ρ, M, hs, hm, by
        rw [ht]
        intro m1 H1 e1 hm1 v rv
        cases rv with
        | d rv =>
        cases rv with
        | tup h hx =>
        rename_i a xs
        refine ⟨a, rfl, ⟨xs, h.sq⟩, hp2 m1 H1 e1 hm1 (fun k _ hk => by cases hk) (Itt X.K a) ?_⟩
        intro i m2 z2 H2 M2 e2 hz2 hm2 _
        have h2 : LvT X.K m2 z2 H2 a xs := h.go (extGo2 e2 hz2)
        have hx2 := RDs.go (extGo2 e2 hz2) _ _ hx
        refine ⟨fun w hw => ?_, fun hl => ⟨xs, h2.sq, by rw [hx2.length]; simpa using hl⟩⟩
        obtain ⟨v, h3, h4⟩ := rds_go hx2 hw
        refine ⟨⟨xs, v, h2.sq, h3⟩, fun x H3 hy => ?_⟩
        obtain ⟨e3, hy⟩ := hy
        subst e3
        have q := hy xs h2.sq
        rw [h3] at q
        cases q
        exact ⟨Ext.refl _ _, hm2, fun _ _ z => z, h4⟩⟩
    · refine .inl ⟨m, z, ρ, M, hs, hm, by
        rw [ht]
        intro m1 H1 e1 hm1 v rv
        cases rv with
        | d rv =>
          cases rv with
          | tup h hx => exact absurd ⟨_, rfl⟩ htup
          | lst h hx =>
            rename_i a xs ds
            refine ⟨a, rfl, ⟨xs, h.sq⟩, hp2 m1 H1 e1 hm1 (fun k _ hk => by cases hk) (Itl X.K a) ?_⟩
            intro i m2 z2 H2 M2 e2 hz2 hm2 _
            have h2 : LvL X.K m2 z2 H2 a xs := h.go (extGo2 e2 hz2)
            have hx2 := RDs.go (extGo2 e2 hz2) _ _ hx
            refine ⟨fun w hw => ?_, fun hl => ⟨xs, h2.sq, by rw [hx2.length]; simpa using hl⟩⟩
            obtain ⟨v, h3, h4⟩ := rds_go hx2 hw
            refine ⟨⟨xs, v, h2.sq, h3⟩, fun x H3 hy => ?_⟩
            obtain ⟨e3, hy⟩ := hy
            subst e3
            have q := hy xs h2.sq
            rw [h3] at q
            cases q
            exact ⟨Ext.refl _ _, hm2, fun _ _ z => z, h4⟩
          | non => exact hp2.elim
          | bl _ => exact hp2.elim
          | int _ => exact hp2.elim
          | str _ => exact hp2.elim
        | p _ _ _ => exact hp2.elim
        | r ha =>
          rename_i a k
          have hp3 := hp2
          simp only [seqW] at hp3
          cases hk : M1[k]? with
          | none => simp [hk] at hp3; exact hp3.elim
          | some o =>
            cases o with
            | dK _ => simp [hk] at hp3; exact hp3.elim
            | ins _ _ => simp [hk] at hp3; exact hp3.elim
            | tbl _ => simp [hk] at hp3; exact hp3.elim
            | ltb _ _ => simp [hk] at hp3; exact hp3.elim
            | lst ws =>
              simp only [hk] at hp3
              obtain ⟨vs, h1, h2⟩ := hm1.ob k _ a hk ha
              refine ⟨a, rfl, ⟨vs, SqL.of h1⟩, hp3 m1 H1 e1 hm1 (fun j _ hj => by cases hj; exact hk) (Itl X.K a) ?_⟩
              intro i m2 z2 H2 M2 e2 hz2 hm2 hg
              have hk2 := hg k _ rfl
              obtain ⟨us, h3, h4⟩ := hm2.ob k _ a hk2 (e2.at ha)
              refine ⟨fun w hw => ?_, fun hl => ⟨us, SqL.of h3, by rw [Paired.length h4]; exact hl⟩⟩
              obtain ⟨v, h5, h6⟩ := RWs.get h4 hw
              refine ⟨⟨us, v, SqL.of h3, h5⟩, fun x H3 hy => ?_⟩
              obtain ⟨e3, hy⟩ := hy
              subst e3
              have q := hy us (SqL.of h3)
              rw [h5] at q
              cases q
              exact ⟨Ext.refl _ _, hm2, fun _ _ z => z, h6⟩⟩
/-- range(n), range(a, b) -/
def dRngI (t : DR) : DI := fun ρ M => (t ρ M).bind fun p M1 => if okRg p.1 p.2 = true then .ok ((rgI p.1 p.2).map fun i => .d (.int i), none) M1 else .bot
theorem itr_ok {m z : List Addr} {H : Hp} (lo hi : Int) : ItOk K z (Itr lo (hi - lo).toNat) ((rgI lo hi).map fun i => .d (.int i)) none m H := by
  intro i m2 z2 H2 M2 e2 _ hm2 _
  have hl : ((rgI lo hi).map fun i => W.d (.int i)).length = (hi - lo).toNat := by unfold rgI; simp
  refine ⟨fun w hw => ?_, fun h => by rw [hl] at h; exact h⟩
  have hi' : i < (hi - lo).toNat := by rw [← hl]; exact (List.getElem?_eq_some_iff.mp hw).1
  refine ⟨hi', fun x H3 hy => ?_⟩
  obtain ⟨e3, hy⟩ := hy
  subst e3
  refine ⟨Ext.refl _ _, hm2, fun _ _ z => z, ?_⟩
  have q : ((rgI lo hi).map fun i => W.d (.int i))[i]? = some (.d (.int (lo + (i : Int)))) := by
    unfold rgI
    rw [List.map_map, List.getElem?_map, List.getElem?_range hi']
    rfl
  rw [q] at hw
  cases hw
  subst hy
  exact .d (.int _)
theorem q_rng1 {p : Pos} (hg : Gl X "range") (hm : X.mg "range" = none) (ha : QE X E a ta) (hst : starEach [a] X.env = [(false, eval a X.env)] := by rfl) (na : starEach [a] X.env = (false, eval a X.env) :: starEach [] X.env := by rfl) : QI X E tgE (.Call (.Name "range" p) [a] [] pos) (dRngI (dRg1 ta)) :=
  PI.imp (pi_range1 hg hm (qa_cons ha qa_nil na) hst) fun σ H R ⟨m, z, ρ, M, hs, hm, hp⟩ => ⟨m, z, ρ, M, hs, hm, by
    have hp1 := Post.unbind hp
    show Post X.K z E m H _ (dCons ta dNil ρ M)
    unfold dCons dNil
    unfold dRg1 at hp1
    cases ht : ta ρ M with
    | bot => rw [ht] at hp1; exact hp1.elim
    | ex x M1 => rw [ht] at hp1; exact hp1
    | ok w M1 =>
      rw [ht] at hp1
      intro m1 H1 e1 hm1 vs rvs
      cases rvs with
      | cons r1 r2 =>
      cases r2
      cases r1 with
      | r _ => exact hp1.elim
      | p _ _ _ => exact hp1.elim
      | d r1 =>
      cases r1 with
      | int n =>
        have hp2 : Post X.K z E m1 H1 (kI X.K z R) (if okRg 0 n = true then By.R.ok ((rgI 0 n).map fun i => W.d (.int i), none) M1 else .bot) := hp1 m1 H1 e1 hm1
        split at hp2
        · rename_i ok
          have q := of_decide_eq_true ok
          refine ⟨n, rfl, by omega, by omega, ?_⟩
          have z := Post.now (k := kI X.K z R) hp2 hm1 (fun k _ hk => by cases hk) (Itr 0 (n - 0).toNat) (itr_ok 0 n)
          rw [Int.sub_zero] at z
          exact z
        · exact hp2.elim
      | _ => exact hp1.elim⟩
theorem q_rng2 {p : Pos} (h : PI X tgE (.Call (.Name "range" p) [a, b] [] pos) (iRng2 (LA X.K E (dCons ta (dCons tb dNil))))) : QI X E tgE (.Call (.Name "range" p) [a, b] [] pos) (dRngI (dRg2 ta tb)) :=
  PI.imp h fun σ H R ⟨m, z, ρ, M, hs, hm, hp⟩ => ⟨m, z, ρ, M, hs, hm, by
    have hp1 := Post.unbind hp
    show Post X.K z E m H _ (dCons ta (dCons tb dNil) ρ M)
    unfold dCons dNil
    unfold dRg2 at hp1
    cases ht : ta ρ M with
    | bot => rw [ht] at hp1; exact hp1.elim
    | ex x M1 => rw [ht] at hp1; exact hp1
    | ok w M1 =>
      rw [ht] at hp1
      show Post X.K z E m H _ ((((tb ρ M1).bind fun w2 M2 => (By.R.ok [] M2).bind fun ws M3 => By.R.ok (w2 :: ws) M3)).bind fun ws M2 => By.R.ok (w :: ws) M2)
      have hp1' : Post X.K z E m H _ ((tb ρ M1).bind fun w2 M2 => match w, w2 with
        | .d (.int i), .d (.int j) => .ok (i, j) M2
        | _, _ => .bot) := hp1
      cases ht2 : tb ρ M1 with
      | bot => rw [ht2] at hp1'; exact hp1'.elim
      | ex x M2 => rw [ht2] at hp1'; exact hp1'
      | ok w2 M2 =>
        rw [ht2] at hp1'
        intro m1 H1 e1 hm1 vs rvs
        cases rvs with
        | cons r1 r2 =>
        cases r2 with
        | cons r2 r3 =>
        cases r3
        cases r1 with
        | r _ => exact hp1'.elim
        | p _ _ _ => exact hp1'.elim
        | d r1 =>
        cases r1 with
        | int i =>
          cases r2 with
          | r _ => exact hp1'.elim
          | p _ _ _ => exact hp1'.elim
          | d r2 =>
          cases r2 with
          | int j =>
            have hp2 : Post X.K z E m1 H1 (kI X.K z R) (if okRg i j = true then By.R.ok ((rgI i j).map fun i => W.d (.int i), none) M2 else .bot) := hp1' m1 H1 e1 hm1
            split at hp2
            · rename_i ok
              have q := of_decide_eq_true ok
              refine ⟨i, j, rfl, ⟨by omega, by omega, by omega, by omega⟩, ?_⟩
              exact Post.now (k := kI X.K z R) hp2 hm1 (fun k _ hk => by cases hk) (Itr i (j - i).toNat) (itr_ok i j)
            · exact hp2.elim
          | _ => exact hp1'.elim
        | _ => exact hp1'.elim⟩
open Classical in
noncomputable def floop (all : List W) (g : Gd) (tg : Tg) (b : DS) : List W → DS
  | [] => fun ρ M => if gOk g all M then .ok (.nx ρ) M else .bot
  | w :: ws => fun ρ M => if gOk g all M then (match tg.den w ρ with
    | some ρ1 => (b ρ1 M).bind fun o M2 => match o with
      | .nx ρ2 => floop all g tg b ws ρ2 M2
      | .ct ρ2 => floop all g tg b ws ρ2 M2
      | .bk ρ2 => .ok (.nx ρ2) M2
      | .rt w => .ok (.rt w) M2
    | none => .bot) else .bot
noncomputable def dFor (ti : DI) (tg : Tg) (b : DS) : DS := fun ρ M => (ti ρ M).bind fun p M1 => floop p.1 p.2 tg b p.1 ρ M1
theorem drop_cons {α : Type} {l : List α} {i : Nat} {w : α} {r : List α} (h : l.drop i = w :: r) : l[i]? = some w ∧ l.drop (i + 1) = r ∧ i < l.length := by
  have h1 : (l.drop i)[0]? = some w := by rw [h]; rfl
  rw [List.getElem?_drop] at h1
  refine ⟨h1, ?_, (List.getElem?_eq_some_iff.mp h1).1⟩
  have : l.drop (i + 1) = (l.drop i).drop 1 := by rw [List.drop_drop]
  rw [this, h]
  rfl
theorem qs_for {ti : DI} (hpo : PassesOwn (model X.prog X.w) X.A X.env X.xe) (hc : X.calm = true) (hi : QI X E tgE iter ti) (hg : PG X tgE (tg.g X.K)) (hb : QSs X E body u)
    (hf : ∀ x, foldedSetIterable iter X.env x = pure x := by intro _; rfl) : QS X E (.For tgE iter body [] pos) (dFor ti tg u) := PS.imp (ps_for hpo hc hi hg hb hf) fun D σ H ⟨m, z, ρ, M, hs, hm, hp⟩ => ⟨m, z, ρ, M, hs, hm, (Post.unbind hp).imp fun p M1 m1 H1 _ e1 hm1 hp1 hgo J hJ => by
  obtain ⟨all, g⟩ := p
  refine ⟨fun i n σ' H' => n = all.length - i ∧ i ≤ all.length ∧ ∃ m' ρ' M', Ext m1 H1 m' H' ∧ RS X.K m' z H' σ' ρ' ∧ RM X.K m' z H' M' ∧ Post X.K z E m' H' (kS X.K z D) (floop all g tg u (all.drop i) ρ' M'),
    ⟨all.length, by simp, Nat.zero_le _, m1, ρ, M1, Ext.refl _ _, hs.mono e1, hm1, hp1⟩, ?_⟩
  rintro i n σ' H' ⟨rfl, hle, m', ρ', M', e', hs', hm', hp'⟩
  cases hd : all.drop i with
  | nil =>
    rw [hd] at hp'
    have hz : all.length ≤ i := by
      have := congrArg List.length hd
      rw [List.length_drop] at this
      simp at this
      omega
    unfold floop at hp'
    split at hp'
    · rename_i ok
      exact .inl ⟨(hJ i m' z H' M' e' (fun _ q => .inl q) hm' ok).2 hz, Post.now (k := kS X.K z D) hp' hm' σ' hs'⟩
    · exact hp'.elim
  | cons w ws =>
    obtain ⟨hw, hd2, hlt⟩ := drop_cons hd
    rw [hd] at hp'
    unfold floop at hp'
    split at hp'
    · rename_i ok
      obtain ⟨hgo', hy⟩ := (hJ i m' z H' M' e' (fun _ q => .inl q) hm' ok).1 w hw
      refine .inr ⟨hgo', fun σ2 H2 => all.length - (i + 1) = all.length - (i + 1) ∧ i + 1 ≤ all.length ∧ ∃ m2 ρ2 M2, Ext m1 H1 m2 H2 ∧ RS X.K m2 z H2 σ2 ρ2 ∧ RM X.K m2 z H2 M2 ∧ Post X.K z E m2 H2 (kS X.K z D) (floop all g tg u ws ρ2 M2),
        fun σ2 H2 ⟨_, q1, q2⟩ => ⟨all.length - (i + 1), by omega, rfl, q1, by rw [hd2]; exact q2⟩, fun x H2 hyl => ?_⟩
      obtain ⟨e2, hm2, _, rw2⟩ := hy x H2 hyl
      split at hp'
      · rename_i ρ1 hdn
        obtain ⟨σ1, h1, h2, _⟩ := Tg.run (hs'.mono e2) rw2 hdn
        refine h1 _ ⟨m', z, ρ1, M', h2, hm2, (Post.unbind (Post.mono e2 hp')).imp fun o M3 m3 H3 _ e3 hm3 hp3 => ?_⟩
        cases o with
        | nx ρ3 => exact fun σ3 hs3 => ⟨rfl, hlt, m3, ρ3, M3, (e'.trans e2).trans e3, hs3, hm3, hp3⟩
        | ct ρ3 => exact fun σ3 hs3 => ⟨rfl, hlt, m3, ρ3, M3, (e'.trans e2).trans e3, hs3, hm3, hp3⟩
        | bk ρ3 => exact Post.now (k := kS X.K z D) hp3 hm3
        | rt w => exact Post.now (k := kS X.K z D) hp3 hm3
      · exact hp'.elim
    · exact hp'.elim⟩
end
end By
namespace By
open PySem PySem.Spec PyProof.Rows L2
section
variable {X : Cx} {E : XK} {e a b c tgE iter elt o : Expr} {es ifs : List Expr} {sts body els : List Stmt} {st : Stmt} {ta tb te to ti' : DE} {t : DA} {tt uu : DT} {pos apos cpos : Pos} {K : PySem.W.Frag} {u v w : DS} {tg : Tg} {ti : DI}
/-- no exception leaves -/
def QTs (X : Cx) (ifs : List Expr) (t : DT) : Prop := PTs X ifs (LT X.K E0 t)
def dYes : DT := fun _ M => .ok true M
theorem PTs.imp {t t' : TT} (h : PTs X ifs t) (i : ∀ σ H Q, t' σ H Q → t σ H Q) : PTs X ifs t' := ⟨fun pins s σ H Q I q => h.run pins s σ H Q I (i σ H Q q)⟩
theorem qts_nil : QTs X [] dYes := PTs.imp pts_nil fun σ H Q ⟨m, z, ρ, M, hs, hm, hp⟩ => Post.now (k := kT Q) hp hm
def noEx {α : Type} : R α → R α
  | .ok a M => .ok a M
  | _ => .bot
/-- the turns of a comprehension: what is gathered -/
noncomputable def cloop (all : List W) (g : Gd) (tg : Tg) (c : DT) (te : DE) (ρ0 : Rho) : List W → Mem → R (List W)
  | [] => fun M => open Classical in if gOk g all M then .ok [] M else .bot
  | w :: ws => fun M => open Classical in if gOk g all M then (match tg.den w ρ0 with
    | some ρ1 => (noEx (c ρ1 M)).bind fun k M1 => if k = true then (noEx (te ρ1 M1)).bind fun x M2 => (cloop all g tg c te ρ0 ws M2).bind fun xs M3 => .ok (x :: xs) M3 else cloop all g tg c te ρ0 ws M1
    | none => .bot) else .bot
noncomputable def dLcW (ti : DI) (tg : Tg) (c : DT) (te : DE) (vs : List Nat) : DA := fun ρ M => (ti ρ M).bind fun p M1 => cloop p.1 p.2 tg c te (wipeR ρ vs) p.1 M1
/-- a new list that nobody changes -/
noncomputable def dLc (ti : DI) (tg : Tg) (c : DT) (te : DE) (vs : List Nat) : DE := fun ρ M => (dLcW ti tg c te vs ρ M).bind fun ws M1 => match allD ws with
  | some ds => if ws.length ≤ 1000000 then .ok (.d (.list ds)) M1 else .bot
  | none => .bot
/-- a new list of the store -/
noncomputable def dLcM (ti : DI) (tg : Tg) (c : DT) (te : DE) (vs : List Nat) : DE := fun ρ M => (dLcW ti tg c te vs ρ M).bind fun ws M1 => if ws.length ≤ 1000000 then .ok (.r M1.length) (M1 ++ [.lst ws]) else .bot
theorem noEx_not {α β : Type} {r : R α} {f : α → Mem → R β} {x : Exn} {M' : Mem} (h : (noEx r).bind f = .ex x M') : ∃ a M, r = .ok a M ∧ f a M = .ex x M' := by
  cases r with
  | ok a M => exact ⟨a, M, rfl, h⟩
  | ex _ _ => cases h
  | bot => cases h
theorem cloop_noex {all : List W} {g : Gd} {c : DT} {te : DE} {ρ0 : Rho} : ∀ {ws : List W} {M M' : Mem} {x : Exn}, cloop all g tg c te ρ0 ws M ≠ .ex x M'
  | [], M, M', x, h => by
    unfold cloop at h
    split at h <;> cases h
  | w :: ws, M, M', x, h => by
    unfold cloop at h
    split at h
    · split at h
      · obtain ⟨k, M1, _, h1⟩ := noEx_not h
        split at h1
        · obtain ⟨y, M2, _, h2⟩ := noEx_not h1
          cases hl : cloop all g tg c te ρ0 ws M2 with
          | bot => rw [hl] at h2; cases h2
          | ex x M1 => exact cloop_noex hl
          | ok ys M3 => rw [hl] at h2; cases h2
        · exact cloop_noex h1
      · cases h
    · cases h
theorem RWs.snoc {m z : List Addr} {H : Hp} {vs : List V} {ws : List W} {v : V} {w : W} (h : RWs K m z H vs ws) (r : RW K m z H v w) : RWs K m z H (vs ++ [v]) (ws ++ [w]) := Paired.snoc h r
/-- under one more address that may change -/
theorem RW.under {m z z' : List Addr} {H : Hp} {v : V} {w : W} (k : ∀ a o, H a = some o → a ∉ m → a ∉ z → a ∉ z') (r : RW K m z H v w) : RW K m z' H v w := by
  induction r with
  | d r => exact .d (RD.go (fun a o h h1 h2 => ⟨h, h1, k a o h h1 h2⟩) _ _ r)
  | r r => exact .r r
  | p h _ _ i1 i2 => exact .p (h.go fun a o h h1 h2 => ⟨h, h1, k a o h h1 h2⟩) i1 i2
theorem RW.upd {m z : List Addr} {H : Hp} {D : Addr} {ob : HO} {v : V} {w : W} (hD : D ∈ z) (r : RW K m z H v w) : RW K m z (upd H D ob) v w := by
  induction r with
  | d r => exact .d (RD.go (fun a o h h1 h2 => ⟨by rw [upd_ne (fun q => h2 (q ▸ hD) : a ≠ D)]; exact h, h1, h2⟩) _ _ r)
  | r r => exact .r r
  | p h _ _ i1 i2 => exact .p (h.go fun a o h h1 h2 => ⟨by rw [upd_ne (fun q => h2 (q ▸ hD) : a ≠ D)]; exact h, h1, h2⟩) i1 i2
theorem RM.under {m z z' : List Addr} {H : Hp} {M : Mem} (hm : RM K m z H M) (h1 : ∀ a ∈ z', ∃ o, H a = some o) (h2 : ∀ a ∈ m, a ∉ z') (k : ∀ a o, H a = some o → a ∉ m → a ∉ z → a ∉ z') : RM K m z' H M :=
  ⟨hm.len, hm.nd, h1, h2, fun i o a e1 e2 => (hm.ob i o a e1 e2).of_rw (fun _ q => q) (fun _ _ q => q.under k) fun c u q n n2 => ⟨q, n, k c u q n n2⟩⟩
/-- the list at D, made on the way, becomes an object of the store -/
theorem RM.adopt {m z : List Addr} {H : Hp} {M : Mem} {D : Addr} {xs : List V} {ws : List W} (hm : RM K m (D :: z) H M) (hD : D ∉ m) (hz : D ∉ z) (hl : H D = some (.lst xs)) (r : RWs K m (D :: z) H xs ws) : RM K (m ++ [D]) z H (M ++ [.lst ws]) := by
  have go0 : ∀ a o, H a = some o → a ∉ m → a ∉ D :: z → H a = some o ∧ a ∉ m ++ [D] ∧ a ∉ z := fun a o h h1 h2 => ⟨h, fun x => by
        rcases List.mem_append.mp x with y | y
        · exact h1 y
        · exact h2 (List.mem_cons.mpr (.inl (List.mem_singleton.mp y))), fun x => h2 (List.mem_cons_of_mem _ x)⟩
  have go : ∀ v w, RW K m (D :: z) H v w → RW K (m ++ [D]) z H v w := fun v w q => by
    induction q with
    | d q => exact .d (RD.go go0 _ _ q)
    | p h _ _ i1 i2 => exact .p (h.go go0) i1 i2
    | r q => exact .r (by rw [List.getElem?_append_left (List.getElem?_eq_some_iff.mp q).1]; exact q)
  refine ⟨by rw [List.length_append, List.length_append, hm.len]; rfl, List.nodup_append.mpr ⟨hm.nd, by simp, fun a ha b hb => ?_⟩, fun a ha => hm.zt a (List.mem_cons_of_mem _ ha), fun a ha => ?_, fun i o a h1 h2 => ?_⟩
  · rw [List.mem_singleton.mp hb]
    exact fun q => hD (q ▸ ha)
  · rcases List.mem_append.mp ha with q | q
    · exact fun x => hm.dz a q (List.mem_cons_of_mem _ x)
    · rw [List.mem_singleton.mp q]
      exact hz
  · by_cases hi : i < M.length
    · rw [List.getElem?_append_left hi] at h1
      rw [List.getElem?_append_left (by rw [hm.len]; exact hi)] at h2
      exact (hm.ob i o a h1 h2).of_rw (fun _ q => q) go fun c u q n n2 => ⟨q, fun x => (List.mem_append.mp x).elim n fun y => n2 (List.mem_cons.mpr (.inl (List.mem_singleton.mp y))), fun x => n2 (List.mem_cons_of_mem _ x)⟩
    · rw [List.getElem?_append_right (by omega)] at h1
      rw [List.getElem?_append_right (by rw [hm.len]; omega)] at h2
      rw [hm.len] at h2
      cases j : i - M.length with
      | zero =>
        rw [j] at h1 h2
        cases h1
        cases h2
        exact ⟨xs, hl, Paired.mapP r go⟩
      | succ j' =>
        rw [j] at h1
        simp at h1
theorem R.bind_assoc {α β γ : Type} (r : R α) (f : α → Mem → R β) (g : β → Mem → R γ) : (r.bind f).bind g = r.bind fun a M => (f a M).bind g := by cases r <;> rfl
theorem noEx_ok {α : Type} {r : R α} {β : Type} {f : α → Mem → R β} {k : β → Mem → List Addr → Hp → Prop} {z : List Addr} {m : List Addr} {H : Hp} (h : Post K z E m H k ((noEx r).bind f)) : ∃ a M, r = .ok a M := by
  cases r with
  | ok a M => exact ⟨a, M, rfl⟩
  | ex x M => exact h.elim
  | bot => exact h.elim
/-- what is done with the list at the end -/
def finL : List W → Mem → R W := fun ws M1 => match allD ws with
  | some ds => if ws.length ≤ 1000000 then .ok (.d (.list ds)) M1 else .bot
  | none => .bot
def finM : List W → Mem → R W := fun ws M1 => if ws.length ≤ 1000000 then .ok (.r M1.length) (M1 ++ [.lst ws]) else .bot
structure FinOk (K : PySem.W.Frag) (E : XK) (fin : List W → Mem → R W) : Prop where
  sz : ∀ ws M w M', fin ws M = .ok w M' → ws.length ≤ 1000000
  pure : ∀ ws M e M', fin ws M ≠ .ex e M'
  go : ∀ (m1 m z : List Addr) (H1 H : Hp) (M : Mem) (D : Addr) (ws : List W) (xs : List V) (Q : VK), H1 D = none → Ext m1 H1 m H → RM K m (D :: z) H M → D ∉ m → D ∉ z → H D = some (.lst xs) → RWs K m (D :: z) H xs ws → Post K z E m1 H1 (kE K z Q) (fin ws M) → Q (.ref D) H
theorem fin_L : FinOk K E finL where
  sz := fun ws M w M' h => by
    unfold finL at h
    split at h
    · split at h
      · assumption
      · cases h
    · cases h
  pure := fun ws M e M' h => by
    unfold finL at h
    split at h
    · split at h <;> cases h
    · cases h
  go := fun m1 m z H1 H M D ws xs Q hD e hm nm nz hl r hp => by
    have un : ∀ a o, H a = some o → a ∉ m → a ∉ (D :: z) → a ∉ z := fun a o _ _ h q => h (List.mem_cons_of_mem _ q)
    unfold finL at hp
    split at hp
    · rename_i ds hd
      split at hp
      · exact hp m H e (hm.under (fun a ha => hm.zt a (List.mem_cons_of_mem _ ha)) (fun a ha q => hm.dz a ha (List.mem_cons_of_mem _ q)) un) (.ref D) (.d (.lst (.inl ⟨Rd.of hl, nm, nz⟩) (rds_of_rws hd (Paired.mapP r fun _ _ q => q.under un))))
      · exact hp.elim
    · exact hp.elim
theorem fin_M : FinOk K E finM where
  sz := fun ws M w M' h => by
    unfold finM at h
    split at h
    · assumption
    · cases h
  pure := fun ws M e M' h => by
    unfold finM at h
    split at h <;> cases h
  go := fun m1 m z H1 H M D ws xs Q hD e hm nm nz hl r hp => by
    unfold finM at hp
    split at hp
    · refine hp (m ++ [D]) H ⟨?_, e.kp, e.th⟩ (hm.adopt nm nz hl r) (.ref D) (.r (at_last hm.len))
      obtain ⟨t, ht, hf⟩ := e.pre
      refine ⟨t ++ [D], by rw [ht, List.append_assoc], fun a ha => ?_⟩
      rcases List.mem_append.mp ha with q | q
      · exact hf a q
      · rw [List.mem_singleton.mp q]
        exact hD
    · exact hp.elim
theorem RW.go {m m' z z' : List Addr} {H H' : Hp} {v : V} {w : W} (k : ∀ a o, H a = some o → a ∉ m → a ∉ z → H' a = some o ∧ a ∉ m' ∧ a ∉ z') (km : ∀ (i : Nat) (a : Addr), m[i]? = some a → m'[i]? = some a) (r : RW K m z H v w) : RW K m' z' H' v w := by
  induction r with
  | d r => exact .d (RD.go k _ _ r)
  | r r => exact .r (km _ _ r)
  | p h _ _ i1 i2 => exact .p (h.go k) i1 i2
theorem goD {m z : List Addr} {H : Hp} {D : Addr} {ob : HO} (hD : H D = none) : ∀ a o, H a = some o → a ∉ m → a ∉ z → upd H D ob a = some o ∧ a ∉ m ∧ a ∉ D :: z := fun a o h h1 h2 =>
  have ne : a ≠ D := ne_of_none h hD
  ⟨by rw [upd_ne ne]; exact h, h1, fun q => by
    rcases List.mem_cons.mp q with r | r
    · exact ne r
    · exact h2 r⟩
theorem RM.opened {m z : List Addr} {H : Hp} {M : Mem} {D : Addr} {ob : HO} (hm : RM K m z H M) (hD : H D = none) : RM K m (D :: z) (upd H D ob) M :=
  ⟨hm.len, hm.nd, fun a ha => by
    rcases List.mem_cons.mp ha with q | q
    · exact ⟨ob, by rw [q, upd_same]⟩
    · obtain ⟨o, h⟩ := hm.zt a q
      exact ⟨o, by rw [upd_ne (ne_of_none h hD)]; exact h⟩, fun a ha q => by
    rcases List.mem_cons.mp q with r | r
    · rw [r] at ha
      exact hm.fresh_notin hD ha
    · exact hm.dz a ha r, fun i o a h1 h2 => (hm.ob i o a h1 h2).of_rw (fun u q => by rw [upd_ne (ne_of_none q hD)]; exact q) (fun _ _ q => q.go (goD hD) fun _ _ q => q) fun c u q n n2 => ⟨by rw [upd_ne (ne_of_none q hD)]; exact q, n, fun x => (List.mem_cons.mp x).elim (fun y => ne_of_none q hD y) n2⟩⟩
theorem RS.go {m m' z z' : List Addr} {H H' : Hp} {σ : L2.St} {ρ : Rho} (h : RS K m z H σ ρ) (k : ∀ v w, RW K m z H v w → RW K m' z' H' v w) : RS K m' z' H' σ ρ := ⟨h.1, fun i w q => by
  obtain ⟨v, h1, h2⟩ := h.2 i w q
  exact ⟨v, h1, k _ _ h2⟩⟩
/-- the list at D grows -/
theorem RM.grown {m z : List Addr} {H : Hp} {M : Mem} {D : Addr} {ob : HO} (hm : RM K m (D :: z) H M) (nm : D ∉ m) : RM K m (D :: z) (upd H D ob) M :=
  ⟨hm.len, hm.nd, fun a ha => by
    obtain ⟨o, h⟩ := hm.zt a ha
    by_cases q : a = D
    · exact ⟨ob, by rw [q, upd_same]⟩
    · exact ⟨o, by rw [upd_ne q]; exact h⟩, hm.dz, fun i o a h1 h2 => by
    have ne : a ≠ D := fun q => nm (q ▸ List.mem_of_getElem? h2)
    exact (hm.ob i o a h1 h2).of_rw (fun u q => by rw [upd_ne ne]; exact q) (fun _ _ q => q.upd List.mem_cons_self) fun c u q n n2 => ⟨by rw [upd_ne (show c ≠ D from fun y => n2 (by rw [y]; exact List.mem_cons_self))]; exact q, n, n2⟩⟩
theorem tLc_of {vs : List Nat} {fin : List W → Mem → R W} (hf : FinOk X.K E fin) (hv : ∀ i ∈ tg.slots, i ∈ vs) :
    ∀ σ H Q, LE X.K E (fun ρ M => (dLcW ti tg tt te vs ρ M).bind fin) σ H Q → tLc (LI X.K E ti) (tg.g X.K) (LT X.K E0 tt) (LE X.K E0 te) vs σ H Q := by
  intro σ H Q ⟨m, z, ρ, M, hs, hm, hp⟩
  have hp' : Post X.K z E m H (kE X.K z Q) ((ti ρ M).bind fun p M1 => (cloop p.1 p.2 tg tt te (wipeR ρ vs) p.1 M1).bind fin) := by
    rw [← R.bind_assoc]
    exact hp
  refine ⟨m, z, ρ, M, hs, hm, (Post.unbind hp').imp fun p M1 m1 H1 _ e1 hm1 hp1 hgo J hJ D hD => ?_⟩
  obtain ⟨all, g⟩ := p
  have nz : D ∉ z := hm1.fresh_notz hD
  have zt1 : ∀ a ∈ D :: z, a ∈ z ∨ H1 a = none := fun a ha => by
    rcases List.mem_cons.mp ha with q | q
    · rw [q]
      exact .inr hD
    · exact .inl q
  have nm1 : D ∉ m1 := hm1.fresh_notin hD
  have hs1 : RS X.K m1 (D :: z) (upd H1 D (.lst [])) (wipe σ vs) (wipeR ρ vs) := ((hs.mono e1).wiped vs).go fun _ _ q => q.go (goD hD) fun _ _ q => q
  refine ⟨fun i n H' => n = all.length - i ∧ i ≤ all.length ∧ ∃ m' M' xs acc, Ext m1 H1 m' H' ∧ D ∉ m' ∧ H' D = some (.lst xs) ∧ RM X.K m' (D :: z) H' M' ∧ RWs X.K m' (D :: z) H' xs acc ∧ RS X.K m' (D :: z) H' (wipe σ vs) (wipeR ρ vs) ∧
    Post X.K z E m1 H1 (kE X.K z Q) ((cloop all g tg tt te (wipeR ρ vs) (all.drop i) M').bind fun ws M3 => fin (acc ++ ws) M3), ⟨all.length, by simp, Nat.zero_le _, m1, M1, [], [], Ext.new hD, nm1, upd_same, hm1.opened hD, .nil, hs1, hp1⟩, ?_⟩
  rintro i n H' ⟨rfl, hle, m', M', xs, acc, e', nm', hl', hm', ra, hs', hp'⟩
  cases hd : all.drop i with
  | nil =>
    rw [hd] at hp'
    have hz : all.length ≤ i := by
      have := congrArg List.length hd
      rw [List.length_drop] at this
      simp at this
      omega
    unfold cloop at hp'
    split at hp'
    · rename_i ok
      have hp2 : Post X.K z E m1 H1 (kE X.K z Q) (fin (acc ++ []) M') := hp'
      rw [List.append_nil] at hp2
      exact .inl ⟨(hJ i m' (D :: z) H' M' e' zt1 hm' ok).2 hz, hf.go m1 m' z H1 H' M' D acc xs Q hD e' hm' nm' nz hl' ra hp2⟩
    · exact hp'.elim
  | cons w ws =>
    obtain ⟨hw, hd2, hlt⟩ := drop_cons hd
    rw [hd] at hp'
    unfold cloop at hp'
    split at hp'
    · rename_i ok
      obtain ⟨hgo', hy⟩ := (hJ i m' (D :: z) H' M' e' zt1 hm' ok).1 w hw
      refine .inr ⟨hgo', fun H2 => ∃ m2 M2 xs acc, Ext m1 H1 m2 H2 ∧ D ∉ m2 ∧ H2 D = some (.lst xs) ∧ RM X.K m2 (D :: z) H2 M2 ∧ RWs X.K m2 (D :: z) H2 xs acc ∧ RS X.K m2 (D :: z) H2 (wipe σ vs) (wipeR ρ vs) ∧
        Post X.K z E m1 H1 (kE X.K z Q) ((cloop all g tg tt te (wipeR ρ vs) ws M2).bind fun ws M3 => fin (acc ++ ws) M3), fun H2 q => ⟨all.length - (i + 1), by omega, rfl, hlt, by rw [hd2]; exact q⟩, fun x H2 hyl => ?_⟩
      obtain ⟨e2, hm2, k2, rw2⟩ := hy x H2 hyl
      split at hp'
      · rename_i ρ1 hdn
        obtain ⟨σ1, h1, h2, h3⟩ := Tg.run (hs'.mono e2) rw2 hdn
        refine h1 _ ⟨by rw [h3 vs hv, wipe_wipe fun _ q => q], ?_⟩
        rw [R.bind_assoc] at hp'
        obtain ⟨k, M3, hk⟩ := noEx_ok hp'
        rw [hk] at hp'
        refine ⟨m', D :: z, ρ1, M', h2, hm2, ?_⟩
        rw [hk]
        intro m3 H3 e3 hm3
        have nm3 : D ∉ m3 := e3.notin (k2 _ _ hl') nm'
        have hl3 : H3 D = some (.lst xs) := e3.kp _ _ (k2 _ _ hl') nm'
        have e13 := (e'.trans e2).trans e3
        have hp3 : Post X.K z E m1 H1 (kE X.K z Q) ((if k = true then (noEx (te ρ1 M3)).bind fun x M2 => (cloop all g tg tt te (wipeR ρ vs) ws M2).bind fun xs M3 => .ok (x :: xs) M3 else cloop all g tg tt te (wipeR ρ vs) ws M3).bind fun ws M3 => fin (acc ++ ws) M3) := hp'
        cases k with
        | false => exact ⟨m3, M3, xs, acc, e13, nm3, hl3, hm3, (RWs.mono e2 ra).mono e3, (hs'.mono e2).mono e3, hp3⟩
        | true =>
          have hp4 : Post X.K z E m1 H1 (kE X.K z Q) (((noEx (te ρ1 M3)).bind fun x M2 => (cloop all g tg tt te (wipeR ρ vs) ws M2).bind fun xs M3 => .ok (x :: xs) M3).bind fun ws M3 => fin (acc ++ ws) M3) := hp3
          rw [R.bind_assoc] at hp4
          obtain ⟨y, M4, hyk⟩ := noEx_ok hp4
          rw [hyk] at hp4
          refine ⟨m3, D :: z, ρ1, M3, h2.mono e3, hm3, ?_⟩
          rw [hyk]
          intro m4 H4 e4 hm4 v rv
          have nm4 : D ∉ m4 := e4.notin hl3 nm3
          have hl4 : H4 D = some (.lst xs) := e4.kp _ _ hl3 nm3
          have hp5 : Post X.K z E m1 H1 (kE X.K z Q) ((cloop all g tg tt te (wipeR ρ vs) ws M4).bind fun xs M3 => fin (acc ++ (y :: xs)) M3) := by
            have q : Post X.K z E m1 H1 (kE X.K z Q) (((cloop all g tg tt te (wipeR ρ vs) ws M4).bind fun xs M3 => .ok (y :: xs) M3).bind fun ws M3 => fin (acc ++ ws) M3) := hp4
            rw [R.bind_assoc] at q
            exact q
          have ra4 := ((RWs.mono e2 ra).mono e3).mono e4
          have hlen : xs.length < sizeLine := by
            rw [Paired.length ra4]
            cases hc : cloop all g tg tt te (wipeR ρ vs) ws M4 with
            | bot => rw [hc] at hp5; exact hp5.elim
            | ex x M5 => exact (cloop_noex hc).elim
            | ok us M5 =>
              rw [hc] at hp5
              have hp6 : Post X.K z E m1 H1 (kE X.K z Q) (fin (acc ++ (y :: us)) M5) := hp5
              cases hfi : fin (acc ++ (y :: us)) M5 with
              | bot => rw [hfi] at hp6; exact hp6.elim
              | ex x M5 => exact (hf.pure _ _ _ _ hfi).elim
              | ok r M6 =>
                have := hf.sz _ _ _ _ hfi
                rw [List.length_append] at this
                exact Nat.lt_of_le_of_lt (show acc.length ≤ 1000000 by omega) (by decide)
          refine ⟨xs, hl4, hlen, m4, M4, xs ++ [v], acc ++ [y], ⟨(e13.trans e4).pre, fun a o h hn => ?_, fun a o h => ?_⟩, nm4, upd_same, hm4.grown nm4, ?_, ?_, ?_⟩
          · rw [upd_ne (ne_of_none h hD)]
            exact (e13.trans e4).kp a o h hn
          · rw [upd_ne (ne_of_none h hD)]
            exact (e13.trans e4).th a o h
          · exact Paired.mapP (RWs.snoc ra4 rv) fun _ _ q => q.upd List.mem_cons_self
          · exact (((hs'.mono e2).mono e3).mono e4).go fun _ _ q => q.upd List.mem_cons_self
          · have q : (fun ws M3 => fin (acc ++ [y] ++ ws) M3) = fun ws M3 => fin (acc ++ (y :: ws)) M3 := by
              funext ws M3
              rw [List.append_assoc]
              rfl
            rw [q]
            exact hp5
      · exact hp'.elim
    · exact hp'.elim
theorem q_lcF {scope : Scope} {own : List (Str × Nat)} {fin : List W → Mem → R W} (hf : FinOk X.K E fin) (hc : X.calm = true) (hN : X.N.Nodup) (hi : QI X E tgE iter ti) (ok : BlkOk X.N X.env.scope scope own)
    (hg : ∀ (s : Shared) (H : Hp) (C : Addr) (cl : List (Str × Addr)) (fp : List Addr), PG (X.blk s H scope (compEnvC scope cl C X.env) fp) tgE (tg.g X.K)) (ht : ∀ (s : Shared) (H : Hp) (C : Addr) (cl : List (Str × Addr)) (fp : List Addr), QTs (X.blk s H scope (compEnvC scope cl C X.env) fp) ifs tt)
    (he : ∀ (s : Shared) (H : Hp) (C : Addr) (cl : List (Str × Addr)) (fp : List Addr), QE (X.blk s H scope (compEnvC scope cl C X.env) fp) E0 elt te) (hv : ∀ i ∈ tg.slots, i ∈ own.map (·.2)) (hs : ∀ x, foldedSetIterable iter X.env x = pure x := by intro _; rfl) :
    QE X E (.ListComp elt [⟨tgE, iter, ifs, 0⟩] scope pos) (fun ρ M => (dLcW ti tg tt te (own.map (·.2)) ρ M).bind fin) := PE.imp (pe_lc (tt := LT X.K E0 tt) (te := LE X.K E0 te) hc hN hi ok hg ht he hs) (tLc_of hf hv)
theorem q_lc {scope : Scope} {own : List (Str × Nat)} {vs : List Nat} (hc : X.calm = true) (hN : X.N.Nodup) (hi : QI X E tgE iter ti) (ok : BlkOk X.N X.env.scope scope own)
    (hg : ∀ (s : Shared) (H : Hp) (C : Addr) (cl : List (Str × Addr)) (fp : List Addr), PG (X.blk s H scope (compEnvC scope cl C X.env) fp) tgE (tg.g X.K)) (ht : ∀ (s : Shared) (H : Hp) (C : Addr) (cl : List (Str × Addr)) (fp : List Addr), QTs (X.blk s H scope (compEnvC scope cl C X.env) fp) ifs tt)
    (he : ∀ (s : Shared) (H : Hp) (C : Addr) (cl : List (Str × Addr)) (fp : List Addr), QE (X.blk s H scope (compEnvC scope cl C X.env) fp) E0 elt te) (hvs : own.map (·.2) = vs) (hv : ∀ i ∈ tg.slots, i ∈ vs) (hs : ∀ x, foldedSetIterable iter X.env x = pure x := by intro _; rfl) :
    QE X E (.ListComp elt [⟨tgE, iter, ifs, 0⟩] scope pos) (dLc ti tg tt te vs) := by
  subst hvs
  exact q_lcF fin_L hc hN hi ok hg ht he hv hs
/-- name = [..] on one line -/
theorem qs_setLcF {i : Nat} {y : Str} {py spos : Pos} {scope : Scope} {own : List (Str × Nat)} {vs : List Nat} {fin : List W → Mem → R W} (hf : FinOk X.K E fin) (hc : X.calm = true) (hN : X.N.Nodup) (hy : X.N[i]? = some y) (hyl : X.env.scope.names.lookup y = some .local)
    (hsw : swapsWith (.ListComp elt [⟨tgE, iter, ifs, 0⟩] scope pos) (some (.Name y py)) spos.line X.env = pure true) (hi : QI X E tgE iter ti) (ok : BlkOk X.N X.env.scope scope own)
    (hg : ∀ (s : Shared) (H : Hp) (C : Addr) (cl : List (Str × Addr)) (fp : List Addr), PG (X.blk s H scope (compEnvC scope cl C X.env) fp) tgE (tg.g X.K)) (ht : ∀ (s : Shared) (H : Hp) (C : Addr) (cl : List (Str × Addr)) (fp : List Addr), QTs (X.blk s H scope (compEnvC scope cl C X.env) fp) ifs tt)
    (he : ∀ (s : Shared) (H : Hp) (C : Addr) (cl : List (Str × Addr)) (fp : List Addr), QE (X.blk s H scope (compEnvC scope cl C X.env) fp) E0 elt te) (hvs : own.map (·.2) = vs) (hv : ∀ i ∈ tg.slots, i ∈ vs) (hs : ∀ x, foldedSetIterable iter X.env x = pure x := by intro _; rfl) :
    QS X E (.Assign [.Name y py] (.ListComp elt [⟨tgE, iter, ifs, 0⟩] scope pos) spos) (dSet i (fun ρ M => (dLcW ti tg tt te vs ρ M).bind fin)) := by
  subst hvs
  exact PS.imp (ps_setLc (tt := LT X.K E0 tt) (te := LE X.K E0 te) hc hN hy hyl hsw hi ok hg ht he hs) (tAsg_name (tLc_of hf hv))
theorem qs_setLcM {i : Nat} {y : Str} {py spos : Pos} {scope : Scope} {own : List (Str × Nat)} {vs : List Nat} (hc : X.calm = true) (hN : X.N.Nodup) (hy : X.N[i]? = some y) (hyl : X.env.scope.names.lookup y = some .local)
    (hsw : swapsWith (.ListComp elt [⟨tgE, iter, ifs, 0⟩] scope pos) (some (.Name y py)) spos.line X.env = pure true) (hi : QI X E tgE iter ti) (ok : BlkOk X.N X.env.scope scope own)
    (hg : ∀ (s : Shared) (H : Hp) (C : Addr) (cl : List (Str × Addr)) (fp : List Addr), PG (X.blk s H scope (compEnvC scope cl C X.env) fp) tgE (tg.g X.K)) (ht : ∀ (s : Shared) (H : Hp) (C : Addr) (cl : List (Str × Addr)) (fp : List Addr), QTs (X.blk s H scope (compEnvC scope cl C X.env) fp) ifs tt)
    (he : ∀ (s : Shared) (H : Hp) (C : Addr) (cl : List (Str × Addr)) (fp : List Addr), QE (X.blk s H scope (compEnvC scope cl C X.env) fp) E0 elt te) (hvs : own.map (·.2) = vs) (hv : ∀ i ∈ tg.slots, i ∈ vs) (hs : ∀ x, foldedSetIterable iter X.env x = pure x := by intro _; rfl) :
    QS X E (.Assign [.Name y py] (.ListComp elt [⟨tgE, iter, ifs, 0⟩] scope pos) spos) (dSet i (dLcM ti tg tt te vs)) := qs_setLcF fin_M hc hN hy hyl hsw hi ok hg ht he hvs hv hs
def fAppend : W → List W → Mem → R W := fun u ws M => match u, ws with
  | .r k, [w] => match M[k]? with
    | some (.lst us) => if us.length ≤ 1000000 then .ok (.d .none) (M.set k (.lst (us ++ [w]))) else .bot
    | _ => .bot
  | _, _ => .bot
def fPop : W → List W → Mem → R W := fun u ws M => match u, ws with
  | .r k, [] => match M[k]? with
    | some (.lst us) => match us[us.length - 1]? with
      | some w => .ok w (M.set k (.lst us.dropLast))
      | none => .bot
    | _ => .bot
  | _, _ => .bot
/-- o.m(..) of a list of the store -/
def isLst (M : Mem) : W → Bool
  | .r k => match M[k]? with
    | some (.lst _) => true
    | _ => false
  | _ => false
def dBM (f : W → List W → Mem → R W) (to : DE) (t : DA) : DE := fun ρ M => (to ρ M).bind fun u M1 => if isLst M1 u = true then (t ρ M1).bind fun ws M2 => f u ws M2 else .bot
def dBM0 (f : W → List W → Mem → R W) (to : DE) : DE := fun ρ M => (to ρ M).bind fun u M1 => if isLst M1 u = true then f u [] M1 else .bot
theorem setI_ok {m z : List Addr} {H : Hp} {xs : List V} {ws : List W} {v : V} {w : W} (r : RWs K m z H xs ws) (rv : RW K m z H v w) (j : Nat) : RWs K m z H (xs.set j v) (ws.set j w) := by
  induction r generalizing j with
  | nil => exact .nil
  | cons h1 h2 ih =>
    cases j with
    | zero => exact .cons rv h2
    | succ j => exact .cons h1 (ih j)
theorem wr_lst {m z : List Addr} {H : Hp} {M : Mem} {k : Nat} {a : Addr} {xs : List V} {ws : List W} (hm : RM K m z H M) (ha : m[k]? = some a) (r : RWs K m z H xs ws) : Ext m H m (upd H a (.lst xs)) ∧ RM K m z (upd H a (.lst xs)) (M.set k (.lst ws)) := by
  have e : Ext m H m (upd H a (.lst xs)) := Ext.write (List.mem_of_getElem? ha)
  exact ⟨e, hm.write ha ⟨xs, upd_same, RWs.mono e r⟩⟩
theorem tyL {m z : List Addr} {H : Hp} {M : Mem} {u : W} {v : V} (hm : RM K m z H M) (hk : isLst M u = true) (r : RW K m z H v u) : tyV K "list" v H := by
  unfold isLst at hk
  split at hk
  · split at hk
    · rename_i k _ us hu
      cases r with
      | r ha =>
        obtain ⟨xs, h1, _⟩ := hm.ob _ _ _ hu ha
        exact .inl ⟨rfl, xs, SqL.of h1⟩
    · cases hk
  · cases hk
/-- a method's rule asks no more than that -/
def BM (K : PySem.W.Frag) (E : XK) (r : V → List V → Hp → VK → Prop) (f : W → List W → Mem → R W) : Prop := ∀ (m z : List Addr) (H : Hp) (M : Mem) (x : V) (u : W) (xs : List V) (us : List W) (Q : VK), RM K m z H M → RW K m z H x u → RWs K m z H xs us → Post K z E m H (kE K z Q) (f u us M) → r x xs H Q
theorem q_bm {id : String} {name : Str} {r : V → List V → Hp → VK → Prop} {f : W → List W → Mem → R W} (slot : Slot "list" name id) (hty : typeOf (.builtin id) = pure (.type "method_descriptor")) (hm' : MtR X id r) (hr : BM X.K E r f) (ho : QE X E o to) (ha : QA X E (e :: es) t)
    (hbase : attributeBase o name X.env (eval o X.env) = eval o X.env := by rfl)
    (hfew : ((backTo cpos (starEach (e :: es) X.env)).all (fun x => !x.1) && (backToKw cpos (keywordEach [] X.env)).all (fun x => x.1.isSome) && decide ((e :: es).length + ([] : List Keyword).length + (if ([] : List Keyword).isEmpty then 0 else 1) < 30)) = true := by rfl)
    (hline : (apos.endLine == cpos.line) = true := by rfl) (hs : starEach (e :: es) X.env = (false, eval e X.env) :: starEach es X.env := by rfl) (hplain : (backTo cpos (starEach es X.env)).any (·.1) = false := by rfl) :
    QE X E (.Call (.Attribute o name apos) (e :: es) [] cpos) (dBM f to t) :=
  PE.imp (pe_bm PySem.F.plainAttrs_list slot hty hm' ho ha hbase hfew hline hs hplain) fun σ H Q ⟨m, z, ρ, M, hs, hm, hp⟩ => ⟨m, z, ρ, M, hs, hm, (Post.unbind hp).imp fun u M1 m1 H1 h1 e1 hm1 hp1 v rv => by
    split at hp1
    · rename_i hl
      exact ⟨tyL hm1 hl rv, m1, z, ρ, M1, hs.mono e1, hm1, (Post.unbind hp1).imp fun ws M2 m2 H2 _ e2 hm2 hp2 vs rvs => hr m2 z H2 M2 v u vs ws Q hm2 (rv.mono e2) rvs hp2⟩
    · exact hp1.elim⟩
theorem bm_append : BM K E rAppend fAppend := by
  intro m z H M x u xs us Q hm ru rus hp
  unfold fAppend at hp
  split at hp
  · rename_i k w
    cases rus with
    | cons r1 r2 =>
    cases r2
    cases ru with
    | r ha =>
    split at hp
    · rename_i ws hw
      split at hp
      · rename_i hl
        obtain ⟨vs, h1, h2⟩ := hm.ob k _ _ hw ha
        obtain ⟨e, hm2⟩ := wr_lst hm ha (RWs.snoc h2 r1)
        exact ⟨_, vs, _, rfl, rfl, h1, by rw [Paired.length h2]; exact Nat.lt_of_le_of_lt hl (by decide), hp m _ e hm2 .non (.d .non)⟩
      · exact hp.elim
    · exact hp.elim
  · exact hp.elim
theorem q_append (ho : QE X E o to) (he : QE X E e te) (hbase : attributeBase o "append" X.env (eval o X.env) = eval o X.env := by rfl)
    (hfew : ((backTo cpos (starEach [e] X.env)).all (fun x => !x.1) && (backToKw cpos (keywordEach [] X.env)).all (fun x => x.1.isSome) && decide ([e].length + ([] : List Keyword).length + (if ([] : List Keyword).isEmpty then 0 else 1) < 30)) = true := by rfl)
    (hline : (apos.endLine == cpos.line) = true := by rfl) (hs : starEach [e] X.env = (false, eval e X.env) :: starEach [] X.env := by rfl) (hplain : (backTo cpos (starEach [] X.env)).any (·.1) = false := by rfl) :
    QE X E (.Call (.Attribute o "append" apos) [e] [] cpos) (dBM fAppend to (dCons te dNil)) := q_bm PySem.F.slot_list_append PySem.F.type_list_append mt_append bm_append ho (qa_cons he qa_nil hs) hbase hfew hline hs hplain
/-- o[i] = e, a list of the store -/
def setI {α : Type} (l : List α) (i : Int) (w : α) : Option (List α) := if 0 ≤ i then (if i < l.length then some (l.set i.toNat w) else none) else if -(l.length : Int) ≤ i then some (l.set (i + l.length).toNat w) else none
def fSetI (M : Mem) (o i w : W) : Option Mem := match o, i with
  | .r k, .d (.int j) => match M[k]? with
    | some (.lst us) => (setI us j w).map fun us' => M.set k (.lst us')
    | _ => none
  | _, _ => none
theorem setL_ok {m z : List Addr} {H : Hp} {M M' : Mem} {ov iv v : V} {o i w : W} {Q : Hp → Prop} (hm : RM K m z H M) (ro : RW K m z H ov o) (ri : RW K m z H iv i) (rw' : RW K m z H v w) (h : fSetI M o i w = some M') (q : ∀ H', Ext m H m H' → RM K m z H' M' → Q H') : rSetL ov iv v H Q := by
  unfold fSetI at h
  split at h
  · rename_i k j
    cases ri with
    | d ri =>
    cases ri
    cases ro with
    | r ha =>
    split at h
    · rename_i us hu
      obtain ⟨vs, h1, h2⟩ := hm.ob k _ _ hu ha
      unfold setI at h
      have hl := Paired.length h2
      split at h
      · rename_i h0
        split at h
        · rename_i h3
          cases h
          obtain ⟨e, hm2⟩ := wr_lst hm ha (setI_ok h2 rw' j.toNat)
          exact ⟨_, vs, j, j.toNat, rfl, rfl, h1, by unfold ixN; rw [if_pos h0, if_pos (by omega)], q _ e hm2⟩
        · cases h
      · rename_i h0
        split at h
        · rename_i h3
          cases h
          obtain ⟨e, hm2⟩ := wr_lst hm ha (setI_ok h2 rw' (j + us.length).toNat)
          exact ⟨_, vs, j, (j + us.length).toNat, rfl, rfl, h1, by unfold ixN; rw [if_neg h0, if_pos (by omega), hl], q _ e hm2⟩
        · cases h
    · cases h
  · cases h
def dSetI (te to ti : DE) : DS := fun ρ M => (te ρ M).bind fun w M1 => (to ρ M1).bind fun o M2 => (ti ρ M2).bind fun i M3 => match fSetI M3 o i w with
  | some M4 => .ok (.nx ρ) M4
  | none => .bot
theorem qs_setI {i : Expr} {pos' : Pos} 
    (h : PS X (.Assign [.Subscript o i pos'] e pos) (tAsg (LE X.K E te) (gSub (LE X.K E to) (LE X.K E ti') rSetL))) : QS X E (.Assign [.Subscript o i pos'] e pos) (dSetI te to ti') :=
  PS.imp h fun D σ H ⟨m, z, ρ, M, hs, hm, hp⟩ => ⟨m, z, ρ, M, hs, hm, (Post.unbind hp).imp fun w M1 m1 H1 _ e1 hm1 hp1 v rv => ⟨m1, z, ρ, M1, hs.mono e1, hm1, (Post.unbind hp1).imp fun o M2 m2 H2 _ e2 hm2 hp2 ov ro => ⟨m2, z, ρ, M2, (hs.mono e1).mono e2, hm2, (Post.unbind hp2).imp fun i M3 m3 H3 _ e3 hm3 hp3 iv ri => by
    split at hp3
    · rename_i M4 h4
      exact setL_ok hm3 (ro.mono e3) ri ((rv.mono e2).mono e3) h4 fun H4 e4 hm4 => hp3 m3 H4 e4 hm4 σ (((hs.mono e1).mono e2).mono (e3.trans e4))
    · exact hp3.elim⟩⟩⟩
def spOf (K : PySem.W.Frag) (F : FD) : Sp := fun vs H Q E => ∃ m z ws M, RWs K m z H vs ws ∧ RM K m z H M ∧ Post K z E m H (kE K z Q) (F ws M)
theorem q_call {F : FD} {x : Str} {p : Pos} (h : PE X (.Call (.Name x p) es [] pos) (tCall (spOf X.K F) [] E (LA X.K E t))) : QE X E (.Call (.Name x p) es [] pos) (dFL F t) :=
  PE.imp h fun σ H Q ⟨m, z, ρ, M, hs, hm, hp⟩ => ⟨m, z, ρ, M, hs, hm, (Post.unbind hp).imp fun ws M1 m1 H1 _ e1 hm1 hp1 vs rvs => ⟨m1, z, ws, M1, by rw [List.append_nil]; exact rvs, hm1, hp1⟩⟩
/-- a list of data that was made within the def is data behind it -/
def fzW (M : Mem) (n : Nat) : W → W
  | .d x => .d x
  | .r i => if i < n then .r i else match M[i]? with
    | some (.lst ws) => match allD ws with
      | some ds => .d (.list ds)
      | none => .r i
    | _ => .r i
  | .p u w => .p u w
def okW (n : Nat) : W → Prop
  | .d _ => True
  | .r i => i < n
  | .p u w => okW n u ∧ okW n w
def okO (n : Nat) : O → Prop
  | .lst ws => ∀ w ∈ ws, okW n w
  | .dK kvs => ∀ p ∈ kvs, okW n p.2
  | .ins _ fs => ∀ p ∈ fs, okW n p.2
  | .tbl _ => True
  | .ltb _ _ => True
def kept (M0 M' : Mem) : Prop := M0.length ≤ M'.length ∧ ∀ j, j < M0.length → M'[j]? = M0[j]? ∨ ∃ o, M'[j]? = some o ∧ okO M0.length o
open Classical in
noncomputable def finD (M0 : Mem) (w : W) (M' : Mem) : R W := if kept M0 M' ∧ okW M0.length (fzW M' M0.length w) then .ok (fzW M' M0.length w) (M'.take M0.length) else .bot
open Classical in
/-- a def: so many parameters, so many names; what it made is given back as data -/
noncomputable def defD (n N : Nat) (body : DS) : FD := fun ws M => if ws.length = n then (match body (ws.map some ++ List.replicate (N - n) none) M with
  | .ok (.rt w) M' => finD M w M'
  | .ok (.nx _) M' => finD M (.d .none) M'
  | .ok _ _ => .bot
  | .ex e M' => if kept M M' then .ex e (M'.take M.length) else .bot
  | .bot => .bot) else .bot
/-- a def that keeps what it made in the store -/
def defK (n N : Nat) (body : DS) : FD := fun ws M => if ws.length = n then (match body (ws.map some ++ List.replicate (N - n) none) M with
  | .ok (.rt w) M' => .ok w M'
  | .ok (.nx _) M' => .ok (.d .none) M'
  | .ok _ _ => .bot
  | .ex e M' => .ex e M'
  | .bot => .bot) else .bot
theorem RW.cut {m m' z : List Addr} {H : Hp} {n : Nat} {v : V} {w : W} (hp : m' = m ++ m'.drop n) (hl : m.length = n) (ok : okW n w) (r : RW K m' z H v w) : RW K m z H v w := by
  induction r with
  | d r => exact .d (RD.go (fun a o h h1 h2 => ⟨h, fun q => h1 (by rw [hp]; exact List.mem_append_left _ q), h2⟩) _ _ r)
  | r r =>
    have q : _ < n := ok
    rw [hp, List.getElem?_append_left (by omega)] at r
    exact .r r
  | p h _ _ i1 i2 => exact .p (h.go fun a o h h1 h2 => ⟨h, fun q => h1 (by rw [hp]; exact List.mem_append_left _ q), h2⟩) (i1 ok.1) (i2 ok.2)
theorem paired_in {α β : Type} {F G : α → β → Prop} : ∀ {xs : List α} {ys : List β}, Paired F xs ys → (∀ x y, y ∈ ys → F x y → G x y) → Paired G xs ys
  | _, _, .nil, _ => .nil
  | _, _, .cons h t, k => .cons (k _ _ List.mem_cons_self h) (paired_in t fun x y hy => k x y (List.mem_cons_of_mem _ hy))
theorem RO.cut {m m' z : List Addr} {H : Hp} {n : Nat} {a : Addr} {o : O} (hp : m' = m ++ m'.drop n) (hl : m.length = n) (ok : okO n o) (r : RO K m' z H a o) : RO K m z H a o := by
  cases o with
  | lst ws =>
    obtain ⟨vs, h1, h2⟩ := r
    exact ⟨vs, h1, paired_in h2 fun v w hw q => q.cut hp hl (ok w hw)⟩
  | dK kvs =>
    obtain ⟨vs, h1, h2⟩ := r
    exact ⟨vs, h1, paired_in h2 fun v w hw q => ⟨q.1, q.2.cut hp hl (ok w hw)⟩⟩
  | ins C fs =>
    obtain ⟨dx, vs, h1, h2⟩ := r
    exact ⟨dx, vs, h1, paired_in h2 fun v w hw q => ⟨q.1, q.2.cut hp hl (ok w hw)⟩⟩
  | tbl P => exact r
  | ltb P q =>
    obtain ⟨e, ps, h1, h2, h3⟩ := r
    exact ⟨e, ps, h1, h2, fun pos cv hc => let ⟨c, e1, e2, e3, e4⟩ := h3 pos cv hc; ⟨c, e1, e2, fun x => e3 (by rw [hp]; exact List.mem_append_left _ x), e4⟩⟩
theorem okO_of {m z : List Addr} {H : Hp} {a : Addr} {o : O} (r : RO K m z H a o) : okO m.length o := by
  have ok : ∀ {v : V} {w : W}, RW K m z H v w → okW m.length w := fun q => by
    induction q with
    | d _ => trivial
    | r q => exact (List.getElem?_eq_some_iff.mp q).1
    | p _ _ _ i1 i2 => exact ⟨i1, i2⟩
  cases o with
  | lst ws =>
    obtain ⟨vs, h1, h2⟩ := r
    clear h1
    intro w hw
    induction h2 with
    | nil => cases hw
    | cons h t ih =>
      rcases List.mem_cons.mp hw with q | q
      · rw [q]; exact ok h
      · exact ih q
  | dK kvs =>
    obtain ⟨vs, h1, h2⟩ := r
    clear h1
    intro w hw
    induction h2 with
    | nil => cases hw
    | cons h t ih =>
      rcases List.mem_cons.mp hw with q | q
      · rw [q]; exact ok h.2
      · exact ih q
  | ins C fs =>
    obtain ⟨dx, vs, h1, h2⟩ := r
    clear h1
    intro w hw
    induction h2 with
    | nil => cases hw
    | cons h t ih =>
      rcases List.mem_cons.mp hw with q | q
      · rw [q]; exact ok h.2
      · exact ih q
  | tbl P => trivial
  | ltb P q => trivial
theorem RM.cut {m m' z : List Addr} {H H' : Hp} {M M' : Mem} (hm : RM K m z H M) (e : Ext m H m' H') (hm' : RM K m' z H' M') (k : kept M M') : Ext m H m H' ∧ RM K m z H' (M'.take M.length) ∧ m' = m ++ m'.drop M.length := by
  obtain ⟨t, ht, hf⟩ := e.pre
  have hd : m'.drop M.length = t := by rw [ht, ← hm.len, List.drop_left]
  have hp : m' = m ++ m'.drop M.length := by rw [hd]; exact ht
  have sub : ∀ a ∈ m, a ∈ m' := fun a ha => by rw [ht]; exact List.mem_append_left _ ha
  refine ⟨⟨⟨[], by simp⟩, e.kp, e.th⟩, ⟨by rw [List.length_take, hm.len]; have := k.1; omega, hm.nd, hm'.zt, fun a ha => hm'.dz a (sub a ha), fun i o a h1 h2 => ?_⟩, hp⟩
  have hi : i < M.length := by rw [← hm.len]; exact (List.getElem?_eq_some_iff.mp h2).1
  rw [List.getElem?_take_of_lt hi] at h1
  have h2' : m'[i]? = some a := e.at h2
  refine RO.cut hp hm.len ?_ (hm'.ob i o a h1 h2')
  rcases k.2 i hi with q | ⟨o', q, ok⟩
  · rw [q] at h1
    have := okO_of (hm.ob i o a h1 h2)
    rw [hm.len] at this
    exact this
  · rw [q] at h1
    cases h1
    exact ok
theorem fzW_ok {m m' z : List Addr} {H : Hp} {M' : Mem} {n : Nat} {v : V} {w : W} (hm' : RM K m' z H M') (hp : m' = m ++ m'.drop n) (hl : m.length = n) (ok : okW n (fzW M' n w)) (r : RW K m' z H v w) : RW K m z H v (fzW M' n w) := by
  cases r with
  | d r => exact RW.cut hp hl ok (.d r)
  | p h h1 h2 => exact RW.cut hp hl ok (.p h h1 h2)
  | r ha =>
    rename_i a i
    by_cases hi : i < n
    · have ef : fzW M' n (.r i) = .r i := by simp only [fzW, if_pos hi]
      rw [ef]
      exact RW.cut hp hl hi (.r ha)
    · cases hM : M'[i]? with
      | none =>
        simp only [fzW, if_neg hi, hM] at ok
        exact absurd ok hi
      | some o =>
        cases o with
        | dK _ => simp only [fzW, if_neg hi, hM] at ok; exact absurd ok hi
        | ins _ _ => simp only [fzW, if_neg hi, hM] at ok; exact absurd ok hi
        | tbl _ => simp only [fzW, if_neg hi, hM] at ok; exact absurd ok hi
        | ltb _ _ => simp only [fzW, if_neg hi, hM] at ok; exact absurd ok hi
        | lst ws =>
          cases hA : allD ws with
          | none => simp only [fzW, if_neg hi, hM, hA] at ok; exact absurd ok hi
          | some ds =>
            simp only [fzW, if_neg hi, hM, hA]
            obtain ⟨vs, h1, h2⟩ := hm'.ob i _ a hM ha
            have hmem : a ∈ m' := List.mem_of_getElem? ha
            refine .d (.lst (.inl ⟨Rd.of h1, fun q => ?_, hm'.dz a hmem⟩) (RDs.go (fun b o h k1 k2 => ⟨h, fun q => k1 (by rw [hp]; exact List.mem_append_left _ q), k2⟩) _ _ (rds_of_rws hA h2)))
            obtain ⟨j, hj, e⟩ := List.getElem_of_mem q
            have h3 : m'[j]? = some a := by
              rw [hp, List.getElem?_append_left hj, List.getElem?_eq_getElem hj, e]
            obtain ⟨l1, e1⟩ := List.getElem?_eq_some_iff.mp ha
            obtain ⟨l2, e2⟩ := List.getElem?_eq_some_iff.mp h3
            have := (List.getElem_inj hm'.nd).mp (e1.trans e2.symm)
            omega
theorem start_rs {m z : List Addr} {H : Hp} {N : List Str} {n : Nat} {vs : List V} {ws : List W} (r : RWs K m z H vs ws) (hl : ws.length = n) : RS K m z H (L2.start N vs) (ws.map some ++ List.replicate (N.length - n) none) := by
  have hv := Paired.length r
  refine ⟨by unfold L2.start; simp [hv, hl], fun i w q => ?_⟩
  by_cases hi : i < ws.length
  · rw [List.getElem?_append_left (by simpa using hi), List.getElem?_map] at q
    cases e : ws[i]? with
    | none => rw [e] at q; cases q
    | some w' =>
      rw [e] at q
      cases q
      obtain ⟨v, h1, h2⟩ := RWs.get r e
      refine ⟨v, ?_, h2⟩
      unfold L2.start
      rw [List.getElem?_append_left (by rw [List.length_map, hv]; exact hi), List.getElem?_map, h1]
      rfl
  · rw [List.getElem?_append_right (by simpa using hi), List.getElem?_replicate] at q
    split at q <;> cases q
section
variable {P : Program} {w : World} {K : PySem.W.Frag} {mg : Str → Option Value} {base : Heap}
end
theorem qv (i : Nat) {x : Str} (hN : X.N[i]? = some x := by rfl) (hv : Vis X.env.scope x := by first | exact Or.inl rfl | exact Or.inr (Or.inl rfl) | exact Or.inr (Or.inr rfl)) (hd : (x == ("__debug__" : Str)) = false := by decide) (hcd : (x == ("__classdict__" : Str)) = false := by decide) :
    QE X E (.Name x pos) (dVar i) := q_var i (pv i hN hv hd hcd)
theorem q_gc {x : Str} {v : V} {d : PyData} (hg : Gl X x) (h : ∃ u, X.mg x = some u ∧ RelV v u) (r : RD X.K [] [] H00 v d) (hd : (x == ("__debug__" : Str)) = false := by decide) : QE X E (.Name x pos) (dC d) := by
  obtain ⟨u, h1, h2⟩ := h
  exact q_const (pe_glob hg h1 h2 hd) r
end
end By
namespace By
open PySem PySem.Spec PyProof.Rows L2
section
variable {P : Program} {w : World} {A : Around} {E : Value → Shared → Prop} {s : Shared}
abbrev setOb (w : World) : Obj := { cls := .type "set", dict := none, data := .set #[] 0 (.fresh 0 0 (!w.params.followText "set-order")) }
abbrev setSt (w : World) (s : Shared) : Shared := { s with heap := s.heap.push (setOb w) }
abbrev SetGot (w : World) (s : Shared) (ns : List Int) (t : Shared) : Prop := ∃ (g : Heap) (tk c : Nat), t = { s with heap := g, toks := tk } ∧ SetR w g s.heap.objs.size (fun j => decide (j ∈ ns)) c ∧ c ≤ ns.length ∧ ∀ b o, s.heap.get? b = some o → g.get? b = some o
end
def rSetL1 (K : PySem.W.Frag) (w : World) : List V → Hp → VK → Prop := fun vs H Q => ∃ (a : Addr) (ns : List Int), vs = [V.ref a] ∧ SqL K H a (ns.map V.int) ∧ ns.length + 1 < scanBound ∧ ∀ q c, H q = none → c ≤ ns.length → Q (.ref q) (upd H q (SetO w q (fun j => decide (j ∈ ns)) c))
section
variable {X : Cx} {E : XK} {e a b c : Expr} {ta tb te : DE} {pos : Pos}
/-- put into an ascending list, once -/
def putS (i : Int) : List Int → List Int
  | [] => [i]
  | j :: js => if i < j then i :: j :: js else if i = j then j :: js else j :: putS i js
def setL (ns : List Int) : List Int := ns.foldr putS []
def fSortSet : FL := fun ws M => match ws with
  | [w] => match intsW M w with
    | some ns => if ns.length < 64 then .ok (.d (.list ((setL ns).map .int))) M else .bot
    | none => .bot
  | _ => .bot
def rSortSet (K : PySem.W.Frag) : List V → Hp → VK → Prop := fun vs H Q => ∃ (a : Addr) (ns : List Int), vs = [V.ref a] ∧ SqL K H a (ns.map V.int) ∧ ns.length < 64 ∧ ∀ q (H' : Hp), (∀ b o, H b = some o → H' b = some o) → H' q = none → Q (.ref q) (upd H' q (.lst ((setL ns).map V.int)))
end
end By
namespace By
open PySem PySem.Spec PyProof.Rows L2
theorem cx_none {P : Program} {w : World} {H : Hp} {s : Shared} {e : Value} {s' : Shared} (z : L2.CX P w [] H s (fun _ _ _ => False) e s') : False := by
  obtain ⟨_, _, _, _, _, _, _, _, _, _, _, _, q⟩ := z
  exact q
end By
namespace By
open PySem PySem.Spec PyProof.Rows L2
variable {X : Cx} {E : XK} {tgE iter e a b : Expr} {te ta tb to ti' : DE} {pos apos cpos tpos : Pos} {es : List Expr} {t : DA}
def enumD (ds : List PyData) : List W := ds.mapIdx fun i d => .d (.tuple [.int (i : Int), d])
def enumW (M : Mem) : W → Option (List W × Gd)
  | .d (.list ds) => some (enumD ds, none)
  | .r k => match M[k]? with
    | some (.lst ws) => match allD ws with
      | some ds => some (enumD ds, some (k, ws))
      | none => none
    | _ => none
  | _ => none
def dEnumI (te : DE) : DI := fun ρ M => (te ρ M).bind fun w M1 => match enumW M1 w with
  | some p => .ok p M1
  | none => .bot
def revW (M : Mem) : W → Option (List W × Gd)
  | .d (.list ds) => some (ds.reverse.map .d, none)
  | .d (.tuple ds) => some (ds.reverse.map .d, none)
  | .r k => match M[k]? with
    | some (.lst ws) => some (ws.reverse, some (k, ws))
    | _ => none
  | _ => none
def dRevI (te : DE) : DI := fun ρ M => (te ρ M).bind fun w M1 => match revW M1 w with
  | some p => .ok p M1
  | none => .bot
def dRevR (t : DR) : DI := fun ρ M => (t ρ M).bind fun p M1 => if okRg p.1 p.2 = true then .ok ((rgI p.1 p.2).reverse.map fun i => .d (.int i), none) M1 else .bot
def allB : List PyData → Option (List Bool)
  | [] => some []
  | .bool b :: ds => (allB ds).map (b :: ·)
  | _ :: _ => none
def boolsW (M : Mem) (w : W) : Option (List Bool) := match rd M w with
  | some (.list ds) => allB ds
  | _ => none
def fAny : FL := fun ws M => match ws with
  | [w] => match boolsW M w with
    | some bs => .ok (.d (.bool (bs.any id))) M
    | none => .bot
  | _ => .bot
def fAll : FL := fun ws M => match ws with
  | [w] => match boolsW M w with
    | some bs => .ok (.d (.bool (bs.all id))) M
    | none => .bot
  | _ => .bot
def fIxM : F2 := fun u w M => match u, w with
  | .r k, .d (.int j) => match M[k]? with
    | some (.lst ws) => match getI ws j with
      | some v => .ok v M
      | none => .bot
    | _ => .bot
  | _, _ => .bot
def dAugI (to ti : DE) (f : F2) (te : DE) : DS := fun ρ M => (to ρ M).bind fun o M1 => (ti ρ M1).bind fun i M2 => (fIxM o i M2).bind fun x M3 => (te ρ M3).bind fun y M4 => (f x y M4).bind fun r M5 => match fSetI M5 o i r with
  | some M6 => .ok (.nx ρ) M6
  | none => .bot
/-- extend by a tuple | a list that is no other than data -/
def rExtT (K : PySem.W.Frag) : V → List V → Hp → VK → Prop := fun x vs H Q => ∃ l b xs zs, x = .ref l ∧ vs = [.ref b] ∧ H l = some (.lst xs) ∧ SqT K H b zs ∧ xs.length + zs.length ≤ sizeLine ∧ Q .non (upd H l (.lst (xs ++ zs)))
section
variable {X : Cx} {E : XK} {e o : Expr} {te to : DE} {pos apos cpos : Pos}
def fExtend : W → List W → Mem → R W := fun u ws M => match u, ws with
  | .r k, [.d (.tuple ds)] => match M[k]? with
    | some (.lst us) => if us.length + ds.length ≤ 1000000 then .ok (.d .none) (M.set k (.lst (us ++ ds.map .d))) else .bot
    | _ => .bot
  | _, _ => .bot
end
section
variable {X : Cx} {E : XK} {e c : Expr} {es : List Expr} {te : DE} {tt : DT} {t : DA} {pos ipos : Pos}
def fStrI : FL := fun ws M => match ws with
  | [.d (.int i)] => if i.natAbs.log2 < 1920 then .ok (.d (.str (toString i))) M else .bot
  | _ => .bot
end
end By
namespace By
open PySem PySem.Spec PyProof.Rows L2
structure FnG (P : Program) (w : World) (K : PySem.W.Frag) (mg : Str → Option Value) (base : Heap) (k : Nat) (f : Addr) (fd : FuncData) (ps : List Str) (sp : Sp) : Prop where
  many : ∀ {vs : List V} {H : Hp} {Q : VK} {E : XK}, sp vs H Q E → vs.length = ps.length
  does : ∀ {A : Around} {outer : List Env} {s : Shared} {H : Hp} {args : Args} {us : List Value} {vs : List V} {Q : VK} {E : XK}, A.guards = some [] → Room k A → Env0 P w K mg base A outer s H →
    BindsTo s fd args (ps.zip us) → Vals vs us → sp vs H Q E → codeAny (model P w) A (.call (.ref f) args) (CR (L2.CX P w) outer P w H s Q E) s
section
variable {P : Program} {w : World} {K : PySem.W.Frag} {mg : Str → Option Value} {base : Heap}
theorem FnG.bot {k : Nat} {f : Addr} {fd : FuncData} {ps : List Str} : FnG P w K mg base k f fd ps (spOf K fun _ _ => .bot) :=
  ⟨fun ⟨_, _, _, _, _, _, hp⟩ => hp.elim, fun _ _ _ _ _ ⟨_, _, _, _, _, _, hp⟩ => hp.elim⟩
theorem slots_of {ps : List Str} {us : List Value} {N : List Str} {scope : Scope} (S : FnScope N ps scope) (i : Nat) : ∀ y ∈ ps.zip us, scope.names.lookup y.1 = some .local ∨ (scope.names.lookup y.1 = some .cell ∧ ((cellsFrom i scope.names []).lookup y.1).isSome = true) := by
  rintro ⟨n, v⟩ hy
  exact (S.par n (List.of_mem_zip hy).1).imp id fun q => ⟨q, PySem.W.cellsFrom_some _ _ _ (.inl q)⟩
/-- a def's promise from its body, at each place where nothing is being shown -/
theorem FnG.of {x qual : Str} {st : Stmt} {f : Addr} {fd : FuncData} {N ps : List Str} {k : Nat} {sp : Sp} (F : Fun K x qual st f fd) (S : FnScope N ps (defScope st))
    (many : ∀ {vs : List V} {H : Hp} {Q : VK} {E : XK}, sp vs H Q E → vs.length = ps.length)
    (body : ∀ (cdv : Value) (A : Around) (outer : List Env) (s : Shared) (H : Hp) (vs : List V) (Q : VK) (E : XK), A.guards = some [] → Room k (A.deeper (envOfC qual (defScope st) s.heap.objs.size f cdv)) → sp vs H Q E →
      ∃ t, PSs (cxOf (L2.CX P w) P w K mg base N qual (defScope st) f cdv A outer s H E) (defBody st) t ∧ t { nx := fun _ H' => Q .non H', rt := Q } (start N vs) H) :
    FnG P w K mg base (k + 1) f fd ps sp := by
  obtain ⟨oc, od, kV, doc, pm, an, cdv, ct, osl, rfl, lk, hcd⟩ := F.ex
  refine ⟨many, ?_⟩
  intro A outer s H args us vs Q E hgd hr e0 hb r hsp
  obtain ⟨t, ht, hq⟩ := body cdv A outer s H vs Q E hgd (hr.deeper _) hsp
  have old : ∀ b o, base.get? b = some o → s.heap.get? b = some o := fun b o q => (e0.bs b o q).1
  have inK := e0.mod.kin.keeps old
  refine codeAny_call_function hr.depth (inK _ _ lk) rfl S.co S.gen rfl (PySem.W.codeRec_of inK hcd) (hb _ _ _ _ (wpAny_newFunctionEnv_cells S.kind (slots_of S _) ?_))
  rintro env rfl s1 x1
  have J := inv_start (CX := L2.CX P w) (E := E) S hr.hd e0 (many hsp) r x1
  refine ⟨(e0.mod.nolimit.keeps old).keeps x1.toInCall.keep, codeAny_func (wpAny_mono (ht.run [] s1 (start N vs) H _ J hq) ?_ fun _ _ h => h)⟩
  intro fl s' h
  cases fl with
  | ret u =>
    obtain ⟨v, σ', H', J', rv, q⟩ := h
    exact ⟨v, H', J'.os, J'.bare, J'.base, J'.hok, rv, q⟩
  | next =>
    obtain ⟨σ', H', J', q⟩ := h
    exact ⟨.non, H', J'.os, J'.bare, J'.base, J'.hok, rfl, q⟩
  | brk => exact h.elim fun _ h => h.elim fun _ h => h.2.elim
  | cont => exact h.elim fun _ h => h.elim fun _ h => h.2.elim
end
section
variable {X : Cx} {E : XK} {e c : Expr} {es : List Expr} {tt : DT} {t : DA} {p pos ipos : Pos} {k : Nat} {f : Addr} {fd : FuncData} {ps : List Str} {x : Str}
theorem run_fnG {sp : Sp} {pins : List (Addr × Obj)} {σ : L2.St} {H : Hp} {s : Shared} {Q : VK} {us : List Value} {vs : List V} (o : FnG X.prog X.w X.K X.mg X.base k f fd ps sp) (hgd : X.A.guards = some []) (hr : Room k X.A) (hb : Binds X.K fd ps []) (hx : Passes (L2.CX X.prog X.w) X E)
    (I : Inv X pins σ H s) (r : Vals vs us) (h : sp vs H Q E) : wpAny (model X.prog X.w) X.A (call (.ref f) us) (EP X pins σ Q) X.xe s := by
  have hl : (us ++ []).length = ps.length := by
    rw [List.append_nil, ← r.length]
    exact o.many h
  have hbu := hb s us I.kIn hl
  rw [List.append_nil] at hbu
  refine wpAny_call (codeAny_mono (o.does hgd hr I.env0 hbu r h) ?_)
  intro q s' hq
  match q, hq with
  | .error _, hq => exact hx _ _ _ _ _ _ I hq
  | .ok (.ret _), hq => exact I.after hq
  | .ok .next, hq => exact hq.elim
  | .ok .brk, hq => exact hq.elim
  | .ok .cont, hq => exact hq.elim
theorem q_callG {F : FD} (o : FnG X.prog X.w X.K X.mg X.base k f fd ps (spOf X.K F)) (hgd : X.A.guards = some []) (hr : Room k X.A) (hg : Gl X x) (hm : X.mg x = some (.ref f)) (hk : PySem.W.keepIn X.K (.ref f) = true) (hb : Binds X.K fd ps []) (hx : Passes (L2.CX X.prog X.w) X E)
    (ha : QA X E (e :: es) t) (hdb : (x == ("__debug__" : Str)) = false := by decide) (he : starEach (e :: es) X.env = (false, eval e X.env) :: starEach es X.env := by rfl) (hpl : (backTo pos (starEach es X.env)).any (·.1) = false := by rfl) :
    QE X E (.Call (.Name x p) (e :: es) [] pos) (dFL F t) := by
  have core : PE X (.Call (.Name x p) (e :: es) [] pos) (tCall (spOf X.K F) [] E (LA X.K E t)) := ⟨fun pins s σ H Q I h =>
    wpAny_Call_Name_kw (ld_glob I hg hm (PySem.W.callWith_K (h₀ := X.base) I.ok.mod.kin hk (thn (ha.run pos pins s σ H _ I h) fun us s1 ⟨vs, H1, I1, r, q⟩ => ⟨I1.kIn, run_fnG o hgd hr hb hx I1 r (by
      have q' : spOf X.K F (vs ++ []) H1 Q E := q
      rw [List.append_nil] at q'
      exact q')⟩) he hpl) hdb)⟩
  exact q_call core
end
section
variable {P : Program} {w : World} {K : PySem.W.Frag} {mg : Str → Option Value} {base : Heap}
theorem bodyD {X : Cx} {sts : List Stmt} {N : List Str} {n : Nat} {body : DS} {vs : List V} {H : Hp} {Q : VK} {E : XK} (hb : QSs X E sts body) (h : spOf X.K (defD n N.length body) vs H Q E) : ∃ t, PSs X sts t ∧ t { nx := fun _ H' => Q .non H', rt := Q } (start N vs) H := by
  obtain ⟨m, z, ws, M, rws, hm, hp⟩ := h
  refine ⟨_, hb, m, z, _, M, start_rs (N := N) rws rfl, hm, ?_⟩
  unfold defD at hp
  split at hp
  · rename_i hl
    rw [hl]
    cases hbd : body (ws.map some ++ List.replicate (N.length - n) none) M with
    | bot => rw [hbd] at hp; exact hp.elim
    | ex x M' =>
      rw [hbd] at hp
      intro m' H' e' hm' cls d hx
      have hp2 : Post X.K z E m H (kE X.K z Q) (open Classical in if kept M M' then .ex x (M'.take M.length) else .bot) := hp
      split at hp2
      · rename_i kp
        obtain ⟨h1, h2, h3⟩ := hm.cut e' hm' kp
        refine hp2 m H' h1 h2 cls d ⟨hx.1, ?_⟩
        obtain ⟨_, hx⟩ := hx
        revert hx
        generalize x.fs = fs
        intro hx
        cases hx with
        | nil => exact .nil
        | own ha hfs => exact .own ha (Paired.mapP hfs fun _ _ q => ⟨q.1, RD.go (fun b o h k1 k2 => ⟨h, fun q => k1 (by rw [h3]; exact List.mem_append_left _ q), k2⟩) _ _ q.2⟩)
      · exact hp2.elim
    | ok o M' =>
      rw [hbd] at hp
      have fin : ∀ (u : W), Post X.K z E m H (kE X.K z Q) (finD M u M') → ∀ (v : V) (m' : List Addr) (H' : Hp), Ext m H m' H' → RM X.K m' z H' M' → RW X.K m' z H' v u → Q v H' := fun u hp2 v m' H' e' hm' rv => by
        unfold finD at hp2
        split at hp2
        · rename_i kp
          obtain ⟨h1, h2, h3⟩ := hm.cut e' hm' kp.1
          exact hp2 m H' h1 h2 v (fzW_ok hm' h3 hm.len kp.2 rv)
        · exact hp2.elim
      intro m' H' e' hm'
      cases o with
      | nx ρ => exact fun σ _ => fin _ hp .non m' H' e' hm' (.d .non)
      | rt u => exact fun v rv => fin _ hp v m' H' e' hm' rv
      | bk ρ => exact hp.elim
      | ct ρ => exact hp.elim
  · exact hp.elim
theorem bodyK {X : Cx} {sts : List Stmt} {N : List Str} {n : Nat} {body : DS} {vs : List V} {H : Hp} {Q : VK} {E : XK} (hb : QSs X E sts body) (h : spOf X.K (defK n N.length body) vs H Q E) : ∃ t, PSs X sts t ∧ t { nx := fun _ H' => Q .non H', rt := Q } (start N vs) H := by
  obtain ⟨m, z, ws, M, rws, hm, hp⟩ := h
  refine ⟨_, hb, m, z, _, M, start_rs (N := N) rws rfl, hm, ?_⟩
  unfold defK at hp
  split at hp
  · rename_i hl
    rw [hl]
    cases hbd : body (ws.map some ++ List.replicate (N.length - n) none) M with
    | bot => rw [hbd] at hp; exact hp.elim
    | ex x M' => rw [hbd] at hp; exact hp
    | ok o M' =>
      rw [hbd] at hp
      intro m' H' e' hm'
      cases o with
      | nx ρ => exact fun σ _ => hp m' H' e' hm' .non (.d .non)
      | rt u => exact fun v rv => hp m' H' e' hm' v rv
      | bk ρ => exact hp.elim
      | ct ρ => exact hp.elim
  · exact hp.elim
theorem manyD {N ps : List Str} {n : Nat} {body : DS} (hn : ps.length = n) {vs : List V} {H : Hp} {Q : VK} {E : XK} (h : spOf K (defD n N.length body) vs H Q E) : vs.length = ps.length := by
  obtain ⟨m, z, ws, M, rws, hm, hp⟩ := h
  unfold defD at hp
  split at hp
  · rename_i hl
    rw [Paired.length rws, hl, hn]
  · exact hp.elim
theorem manyK {N ps : List Str} {n : Nat} {body : DS} (hn : ps.length = n) {vs : List V} {H : Hp} {Q : VK} {E : XK} (h : spOf K (defK n N.length body) vs H Q E) : vs.length = ps.length := by
  obtain ⟨m, z, ws, M, rws, hm, hp⟩ := h
  unfold defK at hp
  split at hp
  · rename_i hl
    rw [Paired.length rws, hl, hn]
  · exact hp.elim
theorem def_okG {x qual : Str} {st : Stmt} {f : Addr} {fd : FuncData} {N ps : List Str} {k n : Nat} {body : DS} (F : Fun K x qual st f fd) (S : FnScope N ps (defScope st)) (hn : ps.length = n)
    (hb : ∀ (cdv : Value) (A : Around) (outer : List Env) (s : Shared) (H : Hp) (E : XK), A.guards = some [] → Room k (A.deeper (envOfC qual (defScope st) s.heap.objs.size f cdv)) → QSs (cxOf (L2.CX P w) P w K mg base N qual (defScope st) f cdv A outer s H E) E (defBody st) body) :
    FnG P w K mg base (k + 1) f fd ps (spOf K (defD n N.length body)) :=
  .of F S (manyD hn) fun cdv A outer s H vs Q E g hr h => bodyD (X := cxOf (L2.CX P w) P w K mg base N qual (defScope st) f cdv A outer s H E) (hb cdv A outer s H E g hr) h
theorem def_okGK {x qual : Str} {st : Stmt} {f : Addr} {fd : FuncData} {N ps : List Str} {k n : Nat} {body : DS} (F : Fun K x qual st f fd) (S : FnScope N ps (defScope st)) (hn : ps.length = n)
    (hb : ∀ (cdv : Value) (A : Around) (outer : List Env) (s : Shared) (H : Hp) (E : XK), A.guards = some [] → Room k (A.deeper (envOfC qual (defScope st) s.heap.objs.size f cdv)) → QSs (cxOf (L2.CX P w) P w K mg base N qual (defScope st) f cdv A outer s H E) E (defBody st) body) :
    FnG P w K mg base (k + 1) f fd ps (spOf K (defK n N.length body)) :=
  .of F S (manyK hn) fun cdv A outer s H vs Q E g hr h => bodyK (X := cxOf (L2.CX P w) P w K mg base N qual (defScope st) f cdv A outer s H E) (hb cdv A outer s H E g hr) h
end
end By
namespace By
open PySem PySem.Spec PyProof.Rows L2
section
variable {P : Program} {w : World} {K : PySem.W.Frag} {mg mb : Str → Option Value} {k : Nat} {fa a : Addr} {fd : FuncData} {x : Str} {F : FD} {s : Shared} {vs : List Value} {ns : List Int}
end
end By
namespace By
open PySem PySem.Spec PyProof.Rows L2
section
variable {X : Cx} {E : XK} {a : Expr} {ta : DE} {p pos : Pos}
/-- what may be told as a text -/
def okShow (d : PyData) : Bool := isDisplay d && d.showable && !d.hasDict && decide (d.depth ≤ 150) && decide (d.shown.length ≤ 1000000)
def fStrD : FL := fun ws M => match ws with
  | [w] => match rd M w with
    | some d => if okShow d = true then .ok (.d (.str d.shown)) M else .bot
    | none => .bot
  | _ => .bot
end
section
variable {X : Cx} {E : XK} {e c : Expr} {es : List Expr} {te : DE} {tt : DT} {t : DA} {pos ipos : Pos}
end
end By
namespace By
open PySem PySem.Spec PyProof.Rows L2
def putW (kvs : List (Key × W)) (k : Key) (w : W) : List (Key × W) := if (kvs.any fun kv => decide (kv.1 = k)) = true then kvs.map (fun kv => if kv.1 = k then (kv.1, w) else kv) else kvs ++ [(k, w)]
abbrev RKs (K : PySem.W.Frag) (m z : List Addr) (H : Hp) : List (Key × V) → List (Key × W) → Prop := Paired (fun (p : Key × V) (q : Key × W) => p.1 = q.1 ∧ RW K m z H p.2 q.2)
section
variable {K : PySem.W.Frag} {m z : List Addr} {H : Hp}
end
noncomputable def dcloop (all : List W) (g : Gd) (tg : Tg) (c : DT) (tk tv : DE) (ρ0 : Rho) : List W → List (Key × W) → Mem → R (List (Key × W))
  | [] => fun acc M => open Classical in if gOk g all M then .ok acc M else .bot
  | w :: ws => fun acc M => open Classical in if gOk g all M then (match tg.den w ρ0 with
    | some ρ1 => (noEx (c ρ1 M)).bind fun k M1 => if k = true then (noEx (tk ρ1 M1)).bind fun y M2 => (noEx (tv ρ1 M2)).bind fun x M3 => match y with
      | .d (.str t) => if acc.length ≤ 1000000 then dcloop all g tg c tk tv ρ0 ws (putW acc (.inr t) x) M3 else .bot
      | _ => .bot
      else dcloop all g tg c tk tv ρ0 ws acc M1
    | none => .bot) else .bot
def finDK (kvs : List (Key × W)) (M : Mem) : R W := .ok (.r M.length) (M ++ [.dK kvs])
noncomputable def dDc (ti : DI) (tg : Tg) (c : DT) (tk tv : DE) (vs : List Nat) : DE := fun ρ M => (ti ρ M).bind fun p M1 => (dcloop p.1 p.2 tg c tk tv (wipeR ρ vs) p.1 [] M1).bind finDK
section
variable {X : Cx} {E : XK} {tgE iter kx vx : Expr} {ifs : List Expr} {tk tv : DE} {tt : DT} {pos : Pos} {K : PySem.W.Frag} {tg : Tg} {ti : DI}
end
end By
namespace By
open PySem PySem.Spec PyProof.Rows L2
def leS (a b : Str) : Bool := !ltCps b.cps.toList a.cps.toList
theorem leS_iff (a b : Str) : leS a b = true ↔ ¬ b.cps.toList < a.cps.toList := by
  unfold leS
  rw [ltCps_eq]
  simp
theorem leS_anti (a b : Str) (h1 : leS a b = true) (h2 : leS b a = true) : a = b := by
  rw [leS_iff] at *
  have e := List.le_antisymm (List.not_lt.mp h1) (List.not_lt.mp h2)
  obtain ⟨a⟩ := a
  obtain ⟨b⟩ := b
  congr 1
  exact Array.toList_inj.mp e
def sortT (ks : List Str) : List Str := ks.mergeSort leS
def txtK : List (Key × W) → Option (List Str)
  | [] => some []
  | (.inr x, _) :: r => (txtK r).map (x :: ·)
  | (.inl _, _) :: _ => none
def fSortD : FL := fun ws M => match ws with
  | [.r k] => match M[k]? with
    | some (.dK kvs) => match txtK kvs with
      | some ks => if ks.length < 64 then .ok (.d (.list ((sortT ks).map .str))) M else .bot
      | none => .bot
    | _ => .bot
  | _ => .bot
section
variable {X : Cx} {E : XK} {a : Expr} {ta : DE} {p pos : Pos}
end
end By
namespace By
open PySem PySem.Spec PyProof.Rows L2
/-- the tuple at a, each item in a new pair -/
def IteT (K : PySem.W.Frag) (a : Addr) : It :=
  ⟨fun i H => ∃ (xs : List V) (x : V), SqT K H a xs ∧ xs[i]? = some x, fun i H v H' => ∃ T x, v = .ref T ∧ H T = none ∧ H' = upd H T (.tup [.int (i : Nat), x]) ∧ ∀ xs, SqT K H a xs → xs[i]? = some x, fun i H => ∃ xs : List V, SqT K H a xs ∧ xs.length ≤ i⟩
def iEnumT (K : PySem.W.Frag) (ta : TA) : TI := fun σ H R => ta σ H fun vs H1 => ∃ a xs, vs = [.ref a] ∧ SqT K H1 a xs ∧ R (IteT K a) H1
section
variable {X : Cx} {E : XK} {e : Expr} {ta : TA} {te : DE} {p pos tpos : Pos} {elts : List Expr} {kk : Nat}
/-- enumerate of a list or a tuple -/
def enumA (M : Mem) : W → Option (List W × Gd)
  | .d (.tuple ds) => some (enumD ds, none)
  | w => enumW M w
def dEnumA (te : DE) : DI := fun ρ M => (te ρ M).bind fun w M1 => match enumA M1 w with
  | some p => .ok p M1
  | none => .bot
end
end By
namespace By
open PySem PySem.Spec PyProof.Rows L2
/-- the context of a generator expression's frame -/
abbrev gx (X : Cx) (A : Around) (s : Shared) (H : Hp) (ce : Env) (fp : List Addr) (pn : List (Addr × Obj)) : Cx :=
  { X with A := A, s_0 := s, H_0 := H, env := ce, outer := X.stack, stack := ce :: X.stack, ex := fp, fn := fun _ => false, pn := pn, xe := fun _ _ => False }
section
variable {X : Cx} {pins : List (Addr × Obj)} {σ : L2.St} {H : Hp} {s : Shared}
theorem gx_start {scope : Scope} {own : List (Str × Nat)} {fp : List Addr} {A : Around} {code : Value} {ce : Env} {pn : List (Addr × Obj)} {s' : Shared} (I : Inv X pins σ H s) (ok : BlkOk X.N X.env.scope scope own) (nc : ∀ y ∈ scope.names, y.2 ≠ .cell) (hN : X.N.Nodup)
    (hce : ce = genEnv scope (cloFrom X.env.cells scope.names []) s.heap.objs.size code builtinsNs X.env) (hfp : ∀ b ∈ fp, FpOk X pins H b ∧ b < s.heap.objs.size) (hd : A.handled = none) (hf : A.frames = some (ce :: X.stack))
    (os : s'.os = s.os) (bare : AllBare s'.gens) (kp : ∀ b o, s.heap.get? b = some o → s'.heap.get? b = some o) (hns : ∃ m, s'.heap.Ns s.heap.objs.size m)
    (hpn : ∀ p ∈ pn, s'.heap.get? p.1 = some p.2 ∧ H p.1 = none ∧ p.1 ≠ s.heap.objs.size ∧ p.1 ∉ frs X.stack ∧ ∀ v, p.2.data ≠ .cell v) : Inv (gx X A s H ce fp pn) [] (wipe σ (own.map (·.2))) H s' := by
  have hfree : ∀ y ∈ scope.names, y.2 = .free → ∃ c, X.env.cells.lookup y.1 = some c := fun y hy e => by
    rcases ok.free y hy e with k | k
    · exact I.ok.has _ (.inl k)
    · exact I.ok.has _ (.inr k)
  have hL : ce.locals = s.heap.objs.size := by rw [hce]; rfl
  have hcl : ce.cells = cloFrom X.env.cells scope.names [] := by rw [hce]; rfl
  have hsc : ce.scope = scope := by rw [hce]; rfl
  have cm : ∀ {y c}, (y, c) ∈ cloFrom X.env.cells scope.names [] → X.env.cells.lookup y = some c ∧ c < s.heap.objs.size := fun {y c} hm => by
    rcases cloFrom_mem hm with hm | ⟨h1, rfl⟩
    · cases hm
    · obtain ⟨c, hc⟩ := hfree _ h1 rfl
      rw [hc]
      obtain ⟨w, z⟩ := I.cell _ _ hc
      exact ⟨rfl, z.lt⟩
  have mem : ∀ {y c}, ce.cells.lookup y = some c → X.env.cells.lookup y = some c ∧ c < s.heap.objs.size := fun {y c} e => by
    rw [hcl] at e
    exact cm (PySem.mem_of_lookup e)
  have look : ∀ {y}, scope.names.lookup y = some .free → ∃ c, ce.cells.lookup y = some c ∧ X.env.cells.lookup y = some c := fun {y} hl => by
    have hy : (y, NameKind.free) ∈ scope.names := PySem.mem_of_lookup hl
    obtain ⟨c', e'⟩ := mem_lookup (cloFrom_has (cells := X.env.cells) (acc := []) hy)
    rw [hcl]
    exact ⟨c', e', (cm (PySem.mem_of_lookup e')).1⟩
  obtain ⟨mm, hmm⟩ := hns
  have okB : (gx X A s H ce fp pn).Ok := by
    refine ⟨I.ok.mod, by show ce.scope.kind = _; rw [hsc]; exact ok.kind, by show ce.globals = _; rw [hce]; exact I.ok.glob, by show ce.builtins = _; rw [hce]; rfl, by show s.heap.objs.size ≤ ce.locals; rw [hL]; exact Nat.le_refl _,
      fun y z c e1 e2 => ?_, fun y hy => ?_, fun y c z e => ?_, fun _ => hd, hf, .inr ⟨rfl, by show ce.frame = some ce.locals; rw [hce]; rfl⟩, fun b hb => ⟨?_, fun y c e z => ?_⟩, I.bs, Nat.le_trans I.ok.bsz I.sz, fun b o e hb => ?_, fun b hb z => ?_, I.stack, I.stkFree⟩
    · exact I.ok.inj y z c (mem e1).1 (mem e2).1
    · show ∃ c, ce.cells.lookup y = some c
      have key : ∀ k, ce.kindOf y = some k → (k = .cell ∨ k = .free) → ∃ c, ce.cells.lookup y = some c := fun k hk hk' => by
        unfold Env.kindOf at hk
        rw [hsc] at hk
        rcases hk' with rfl | rfl
        · exact absurd rfl (nc _ (PySem.mem_of_lookup hk))
        · obtain ⟨c, h1, _⟩ := look hk
          exact ⟨c, h1⟩
      rcases hy with hy | hy
      · exact key _ hy (.inl rfl)
      · exact key _ hy (.inr rfl)
    · cases z
    · show b ≠ ce.locals
      rw [hL]; exact Nat.ne_of_lt (hfp b hb).2
    · exact (hfp b hb).1.2.2.2.2.1 y c (mem e).1 z
    · rcases (hfp b hb).1.2.2.2.1 with z | z
      · exact I.ok.noex b o e z
      · exact absurd (Nat.lt_of_lt_of_le (Heap.lt_size e) (Nat.le_trans I.ok.bsz z)) (Nat.lt_irrefl _)
    · rcases List.mem_cons.mp (I.stkSub b z) with z | z
      · exact (hfp b hb).1.2.1 z
      · exact (hfp b hb).1.2.2.1 z
  refine ⟨okB, os, bare, Un.kept kp, ⟨mm, ?_, fun i y av e1 e2 e3 => ?_⟩, fun y c e => ?_, ?_, fun y c e => ?_, fun p hp => ?_, I.hok.kept kp, by rw [wipe_length]; exact I.len⟩
  · show Heap.Ns _ ce.locals _
    rw [hL]
    exact hmm
  · obtain ⟨e2, hne⟩ := wipe_some e2
    have no : ∀ k, scope.names.lookup y = some k → ¬ (k = .local ∨ k = .cell) := fun k hk hh => by
      rcases ok.own _ (PySem.mem_of_lookup hk) hh with e' | e'
      · obtain ⟨p, hp, hpy⟩ := List.mem_map.mp e'
        have e3 := ok.ix p hp
        have : p.1 = y := hpy
        rw [this] at e3
        exact hne (List.mem_map.mpr ⟨p, hp, nodup_ix hN e3 e1⟩)
      · exact e' (List.mem_of_getElem? e1)
    have hfr : scope.names.lookup y = some .free := by
      have e3 : Vis ce.scope y := e3
      unfold Vis at e3
      rw [hsc] at e3
      rcases e3 with e3 | e3 | e3
      · exact absurd (.inl rfl) (no _ e3)
      · exact absurd (.inr rfl) (no _ e3)
      · exact e3
    obtain ⟨m, hn, hl⟩ := I.loc
    have hvis : Vis X.env.scope y := (ok.free _ (PySem.mem_of_lookup hfr) rfl).elim (fun k => .inr (.inl k)) (fun k => .inr (.inr k))
    obtain ⟨w, r, q⟩ := hl i y av e1 e2 hvis
    refine ⟨w, r, .inr ⟨.inr (by show ce.scope.names.lookup y = _; rw [hsc]; exact hfr), ?_⟩⟩
    obtain ⟨c, h1, h2⟩ := look hfr
    rcases q with ⟨k, _⟩ | ⟨_, c', e', z⟩
    · have k : X.env.scope.names.lookup y = some .local := k
      rcases ok.free _ (PySem.mem_of_lookup hfr) rfl with k' | k' <;> rw [show X.env.scope.names.lookup y = _ from k'] at k <;> cases k
    · rw [h2] at e'; cases e'
      exact ⟨c, h1, z.keeps kp⟩
  · obtain ⟨w, z⟩ := I.cell y c (mem e).1
    exact ⟨w, z.keeps kp⟩
  · show H ce.locals = none
    rw [hL]; exact I.hok.fresh (Nat.le_refl _)
  · exact I.freeC y c (mem e).1
  · rw [List.append_nil] at hp
    obtain ⟨h1, h2, h3, h4, h5⟩ := hpn p hp
    exact ⟨h1, h2, by show p.1 ≠ ce.locals; rw [hL]; exact h3, h4, h5⟩
end
structure Tk where
  ad : Option Addr
  ob : List Value → Nat × Nat → Obj
  nc : ∀ us c v, (ob us c).data ≠ .cell v
abbrev noTk : Tk := ⟨none, fun _ _ => lstObj #[] 0, fun _ _ _ q => nomatch q⟩
abbrev lsTk (S : Addr) : Tk := ⟨some S, fun us c => lstObj us.toArray c.1, fun _ _ _ q => nomatch q⟩
def cp (o : Tk) (us : List Value) (c : Nat × Nat) : List (Addr × Obj) := match o.ad with
  | some S => [(S, o.ob us c)]
  | none => []
theorem cp_some {o : Tk} {us : List Value} {c : Nat × Nat} {S : Addr} (e : o.ad = some S) : cp o us c = [(S, o.ob us c)] := by
  unfold cp
  rw [e]
theorem cp_none {o : Tk} {us : List Value} {c : Nat × Nat} (e : o.ad = none) : cp o us c = [] := by
  unfold cp
  rw [e]
/-- while the generator sleeps -/
structure Sleep (o : Tk) (us : List Value) (v : Value) (s s' : Shared) : Prop where
  os : s'.os = s.os
  bare : AllBare s'.gens
  keep : ∀ b ob, o.ad ≠ some b → s.heap.get? b = some ob → s'.heap.get? b = some ob
  own : ∃ c, ∀ p ∈ cp o (us ++ [v]) c, s'.heap.get? p.1 = some p.2
theorem cp_adr {o : Tk} {us : List Value} {c : Nat × Nat} {p : Addr × Obj} (h : p ∈ cp o us c) : o.ad = some p.1 := by
  cases e : o.ad with
  | none =>
    rw [cp_none e] at h
    cases h
  | some S =>
    rw [cp_some e] at h
    rw [List.mem_singleton.mp h]
theorem cp_cell {o : Tk} {us : List Value} {c : Nat × Nat} {p : Addr × Obj} (h : p ∈ cp o us c) : ∀ v, p.2.data ≠ .cell v := by
  cases e : o.ad with
  | none =>
    rw [cp_none e] at h
    cases h
  | some S =>
    rw [cp_some e] at h
    rw [List.mem_singleton.mp h]
    exact o.nc _ _
/-- the taker's own list stands apart from all that the generator has -/
structure Apt (X : Cx) (ip : List (Addr × Obj)) (H : Hp) (o : Tk) : Prop where
  up : ∀ S, o.ad = some S → X.s_0.heap.objs.size ≤ S ∧ S ≠ X.env.locals ∧ (∀ x c, X.env.cells.lookup x = some c → c ≠ S) ∧ (∀ p ∈ X.pn ++ ip, p.1 ≠ S) ∧ H S = none ∧ S ∉ X.fs
theorem cp_fresh {X : Cx} {ip : List (Addr × Obj)} {σ : L2.St} {H : Hp} {s : Shared} {o : Tk} {us : List Value} (I : Inv X ip σ H s) (ha : Apt X ip H o) (h : ∃ c, ∀ p ∈ cp o us c, s.heap.get? p.1 = some p.2) : ∃ c, Inv X (cp o us c ++ ip) σ H s := by
  obtain ⟨c, hc⟩ := h
  refine ⟨c, I.pins_of fun p hp => ?_⟩
  rcases List.mem_append.mp hp with q | q
  · obtain ⟨_, h2, _, _, h5, h6⟩ := ha.up _ (cp_adr q)
    exact ⟨hc p q, h5, h2, h6, cp_cell q⟩
  · exact I.pin p (List.mem_append_right _ q)
/-- woken again -/
theorem woken {X : Cx} {ip : List (Addr × Obj)} {σ : L2.St} {H : Hp} {s s' : Shared} {o : Tk} {us : List Value} {v : Value} {c : Nat × Nat} (I : Inv X (cp o us c ++ ip) σ H s) (ha : Apt X ip H o) (z : Sleep o us v s s') : ∃ c', Inv X (cp o (us ++ [v]) c' ++ ip) σ H s' := by
  have I0 : Inv X ip σ H s := I.pins_of fun p hp => I.pin p (List.mem_append_right _ (List.mem_append_right _ hp))
  obtain ⟨z1, z2, z3, z4⟩ := z
  refine cp_fresh ?_ ha z4
  have nt : ∀ b u, H b = some u → o.ad ≠ some b := fun b u q e => by
    rw [(ha.up b e).2.2.2.2.1] at q
    cases q
  have mo : ∀ b, b ∉ o.ad.toList → o.ad ≠ some b := fun b hb e => hb (by rw [e]; exact List.mem_singleton.mpr rfl)
  obtain ⟨hh, g, d, t, os'⟩ := s'
  have ho : os' = s.os := z1
  subst ho
  refine I0.step (g' := g) (t' := t) (d' := d) (ch := o.ad.toList) (fun b hb => ?_)
    (fun b ob _ _ hc q _ => z3 b ob (mo b hc) q) (fun b ob _ _ hc q _ => ⟨ob.slots, z3 b ob (mo b hc) q⟩) (fun _ _ _ _ n => n) (fun b ob hc q => ⟨ob, z3 b ob (mo b hc) q⟩)
    (fun _ _ q => q) (fun _ _ _ q => q) (fun b ps q => ⟨#[], by rw [q]; simp⟩) (fun m hm => ?_) (fun b u q => ?_) z2
  · have e : o.ad = some b := by
      cases q : o.ad with
      | none => rw [q] at hb; cases hb
      | some S => rw [q] at hb; rw [List.mem_singleton.mp hb]
    obtain ⟨h1, h2, h3, h4, _⟩ := ha.up b e
    exact ⟨.inr h1, h2, h3, h4⟩
  · obtain ⟨ob, es, ep, ho, r⟩ := hm
    refine ⟨ob, es, ep, z3 _ ob (fun e => (ha.up _ e).2.1 rfl) ho, r⟩
  · refine (I0.hok b u q).stay (fun c v hc y => z3 c v ?_ y) (fun _ y => y) fun _ _ y => y
    rcases hc with y | y
    · rw [y]; exact nt b u q
    · exact nt c _ y
end By
namespace By
open PySem PySem.Spec PyProof.Rows L2
/-- the turns of a generator expression: what it hands out, until stop says that no more is asked for (true) or to its end (false) -/
noncomputable def gloop (stop : W → Bool) (all : List W) (g : Gd) (tg : Tg) (c : DT) (te : DE) (ρ0 : Rho) : List W → Mem → R (List W × Bool)
  | [] => fun M => open Classical in if gOk g all M then .ok ([], false) M else .bot
  | w :: ws => fun M => open Classical in if gOk g all M then (match tg.den w ρ0 with
    | some ρ1 => (noEx (c ρ1 M)).bind fun k M1 => if k = true then (noEx (te ρ1 M1)).bind fun x M2 => if stop x = true then .ok ([x], true) M2 else (gloop stop all g tg c te ρ0 ws M2).bind fun p M3 => .ok (x :: p.1, p.2) M3 else gloop stop all g tg c te ρ0 ws M1
    | none => .bot) else .bot
theorem noEx_bind {α β : Type} {r : R α} {f : α → Mem → R β} {b : β} {M' : Mem} (h : (noEx r).bind f = .ok b M') : ∃ a M, r = .ok a M ∧ f a M = .ok b M' := by
  cases r with
  | ok a M => exact ⟨a, M, rfl, h⟩
  | ex e M => cases h
  | bot => cases h
theorem bindOk {α β : Type} {r : R α} {f : α → Mem → R β} {b : β} {M' : Mem} (h : r.bind f = .ok b M') : ∃ a M, r = .ok a M ∧ f a M = .ok b M' := by
  cases r with
  | ok a M => exact ⟨a, M, rfl, h⟩
  | ex e M => cases h
  | bot => cases h
theorem gloop_early {stop : W → Bool} {all : List W} {g : Gd} {tg : Tg} {c : DT} {te : DE} {ρ0 : Rho} {M' : Mem} : ∀ {ws : List W} {M : Mem}, gloop stop all g tg c te ρ0 ws M ≠ .ok ([], true) M'
  | [], M => fun h => by
    unfold gloop at h
    split at h <;> cases h
  | w :: ws, M => fun h => by
    unfold gloop at h
    split at h
    · split at h
      · obtain ⟨k, M1, _, h⟩ := noEx_bind h
        split at h
        · obtain ⟨y, M2, _, h⟩ := noEx_bind h
          split at h
          · cases h
          · obtain ⟨p, M3, _, h⟩ := bindOk h
            cases h
        · exact gloop_early h
      · cases h
    · cases h
theorem over_gen {A : Around} {elt : Expr} {gs : List Comprehension} {scope : Scope} {pos : Pos} {it acc : Value} {ce : Env} : A.over (.compLoop (.GeneratorExp elt gs scope pos) 0 it acc ce) [] = A.deeper ce := by
  first
    | rfl
    | (obtain ⟨hd, d, fr, gs, u⟩ := A; simp [Around.over, Around.deeper, marksOver, frameCount, unitsOf, envsOf, guardsOf, pushEnvs, pushGuards, Code.envs, Code.env?, Code.isFrame, Code.guards, Code.isGuard, Code.weight, Code.frames, Code.isCreation, Code.isCaller, Code.cUnits])
/-- what the taker may lean on -/
structure GFact (X : Cx) (z fp : List Addr) (sc : Shared) (m1 : List Addr) (H1 : Hp) (a : Addr) (g : Nat) (o : Tk) (us : List Value) (ys : List W) (m : List Addr) (H : Hp) (s : Shared) : Prop where
  os : s.os = sc.os
  bare : AllBare s.gens
  nl : s.heap.NoLimit
  gen : s.heap.IsGen a g
  un : Un (frs X.stack) fp H1 H sc.heap s.heap
  hok : HOk X.prog X.w H s.heap
  free : ∀ S, o.ad = some S → H S = none
  ext : Ext m1 H1 m H
  vals : ∃ vs, Vals vs us ∧ RWs X.K m z H vs ys
/-- an item is handed out; ys: all that will be; early: no more is asked for behind the last one -/
def GY (X : Cx) (z fp : List Addr) (sc : Shared) (m1 : List Addr) (H1 : Hp) (a : Addr) (g : Nat) (o : Tk) (ys : List W) (early : Bool) (Mf : Mem) : Protocol := fun n _ v s kap =>
  ∃ us m H, us.length + n + 1 = ys.length ∧ GFact X z fp sc m1 H1 a g o (us ++ [v]) (ys.take (us.length + 1)) m H s ∧ (∃ c, ∀ p ∈ cp o us c, s.heap.get? p.1 = some p.2) ∧
    (n = 0 → early = true → RM X.K m z H Mf) ∧ ((n = 0 → early = false) → ∀ s', Sleep o us v s s' → kap (.send .none) s')
def GP (X : Cx) (z fp : List Addr) (sc : Shared) (m1 : List Addr) (H1 : Hp) (a : Addr) (g : Nat) (o : Tk) (ys : List W) (early : Bool) (Mf : Mem) (n : Nat) (_ s : Shared) : Prop :=
  n = 0 ∧ early = false ∧ ∃ us m H, us.length = ys.length ∧ GFact X z fp sc m1 H1 a g o us ys m H s ∧ (∃ c, ∀ p ∈ cp o us c, s.heap.get? p.1 = some p.2) ∧ RM X.K m z H Mf
abbrev GEnd' (P : Nat → Shared → Shared → Prop) : GenEnd := fun n s₀ r s => r = .ok .next ∧ P n s₀ s

section
variable {X : Cx} {σ : L2.St} {ρ0 : Rho} {scope : Scope} {own : List (Str × Nat)} {fp : List Addr} {sc : Shared} {m1 z : List Addr} {H1 : Hp} {ce : Env} {a : Addr} {go : Obj} {gn : Nat} {o : Tk} {ys : List W} {early : Bool} {Mf : Mem}
  {tgE elt iter : Expr} {ifs : List Expr} {tg : Tg} {tt : DT} {te : DE} {all : List W} {gd : Gd} {J : It} {it : Addr} {tn : Nat → Heap → Prop} {A : Around} {gpos : Pos} {stop : W → Bool}
/-- the loop of the frame -/
theorem gen_turns (hc : X.calm = true) (T : Turn X.prog X.w X.K tgE J fp it tn) (hJ : ItOk X.K z J all gd m1 H1) (hsl : ∀ i ∈ tg.slots, i ∈ own.map (·.2)) (hco : ce.scope.isCoroutine = false)
    (hgen : ∀ h : Heap, h.get? a = some go → h.IsGen a gn) (hafp : a ∉ fp)
    (hap : ∀ S, o.ad = some S → sc.heap.objs.size ≤ S ∧ S ≠ ce.locals ∧ (∀ x c, ce.cells.lookup x = some c → c ≠ S) ∧ S ≠ a ∧ S ∉ fp ∧ S ∉ frs X.stack)
    (pg : PG (gx X (A.deeper ce) sc H1 ce fp [(a, go)]) tgE (tg.g X.K)) (pt : QTs (gx X (A.deeper ce) sc H1 ce fp [(a, go)]) ifs tt) (pe : QE (gx X (A.deeper ce) sc H1 ce fp [(a, go)]) E0 elt te)
    (hs0 : RS X.K m1 z H1 (wipe σ (own.map (·.2))) ρ0) :
    ∀ (ws : List W) (i : Nat) (us : List Value) (yd rest : List W) (vs : List V) (M : Mem) (m : List Addr) (H : Hp) (c : Nat × Nat) (s₀ s : Shared), all.drop i = ws → i ≤ all.length → gloop stop all gd tg tt te ρ0 ws M = .ok (rest, early) Mf → ys = yd ++ rest → us.length = yd.length →
      Inv (gx X (A.deeper ce) sc H1 ce fp [(a, go)]) (cp o us c) (wipe σ (own.map (·.2))) H s → tn i s.heap → (∀ b ∈ fp, H b = none) → Ext m1 H1 m H → RM X.K m z H M → RWs X.K m z H vs yd → Vals vs us →
      Seg (model X.prog X.w) A (GEnd' (GP X z fp sc m1 H1 a gn o ys early Mf)) (GY X z fp sc m1 H1 a gn o ys early Mf) rest.length s₀ (.compLoop (.GeneratorExp elt [⟨tgE, iter, ifs, 0⟩] scope gpos) 0 (.ref it) .none ce)
        ((model X.prog X.w).den (.compLoop (.GeneratorExp elt [⟨tgE, iter, ifs, 0⟩] scope gpos) 0 (.ref it) .none ce)) [] s := by
  have oS : ∀ {ip : List (Addr × Obj)} {σ' : L2.St} {H' : Hp} {s' : Shared} {us : List Value} {c : Nat × Nat}, Inv (gx X (A.deeper ce) sc H1 ce fp [(a, go)]) (cp o us c ++ ip) σ' H' s' → ∀ S, o.ad = some S → H' S = none := fun {ip σ' H' s' us c} I' S e => by
    exact (I'.pin (S, o.ob us c) (List.mem_append_right _ (List.mem_append_left _ (by rw [cp_some e]; exact List.mem_singleton.mpr rfl)))).2.1
  have stat : ∀ {σ' : L2.St} {H' : Hp} {s' : Shared} {us : List Value} {c : Nat × Nat}, Inv (gx X (A.deeper ce) sc H1 ce fp [(a, go)]) (cp o us c) σ' H' s' → (∀ b ∈ fp, H' b = none) → ∀ b ∈ fp, FpOk (gx X (A.deeper ce) sc H1 ce fp [(a, go)]) (cp o us c) H' b := fun {σ' H' s' us c} I' hn b hb =>
    ⟨hn b hb, (I'.ok.exf b hb).1, I'.ok.exfs b hb, .inl hb, fun x c e => (I'.ok.exf b hb).2 x c e, fun p hp q => by
      rcases List.mem_append.mp hp with hp | hp
      · rw [List.mem_singleton.mp hp] at q
        exact hafp (by rw [show a = b from q]; exact hb)
      · exact (hap p.1 (cp_adr hp)).2.2.2.2.1 (by rw [q]; exact hb)⟩
  have fact : ∀ {ip : List (Addr × Obj)} {σ' : L2.St} {H' : Hp} {s' : Shared} {us us' : List Value} {c : Nat × Nat} {m' : List Addr} {vs' : List V} {ys' : List W}, Inv (gx X (A.deeper ce) sc H1 ce fp [(a, go)]) (cp o us c ++ ip) σ' H' s' → Ext m1 H1 m' H' → RWs X.K m' z H' vs' ys' → Vals vs' us' → GFact X z fp sc m1 H1 a gn o us' ys' m' H' s' :=
    fun {ip σ' H' s' us us' c m' vs' ys'} I' e rv vl => ⟨I'.os, I'.bare, I'.nolimit, hgen _ (I'.pin (a, go) (List.mem_append_left _ (List.mem_singleton.mpr rfl))).1, I'.base, I'.hok, oS I', e, vs', vl, rv⟩
  have ownP : ∀ {ip : List (Addr × Obj)} {σ' : L2.St} {H' : Hp} {s' : Shared} {us : List Value} {c : Nat × Nat}, Inv (gx X (A.deeper ce) sc H1 ce fp [(a, go)]) (cp o us c ++ ip) σ' H' s' → ∃ c, ∀ p ∈ cp o us c, s'.heap.get? p.1 = some p.2 := fun {ip σ' H' s' us c} I' =>
    ⟨c, fun p hp => (I'.pin p (List.mem_append_right _ (List.mem_append_left _ hp))).1⟩
  have hG : (gx X (A.deeper ce) sc H1 ce fp [(a, go)]).prog = X.prog := rfl
  intro ws
  induction ws with
  | nil =>
    intro i us yd rest vs M m H c s₀ s hd hi hg hys hul I st hn e hm rv vl
    unfold gloop at hg
    split at hg
    · rename_i ok
      cases hg
      have hz : all.length ≤ i := by
        have := congrArg List.length hd
        rw [List.length_drop] at this
        simp at this
        omega
      have stop := (hJ i m z H _ e (fun _ q => .inl q) hm ok).2 hz
      show Seg _ A _ _ _ s₀ _ ((compTurn (.GeneratorExp elt [⟨tgE, iter, ifs, 0⟩] scope gpos) 0 (.ref it) .none ce).onRaise (leaving ce)) [] s
      rw [compTurn_gen, Sem.onRaise_eq_wrap]
      refine seg_bind_wrap (wpAny_standAt ?_)
      refine seg_bind_wrap ?_
      rw [over_gen]
      refine thnF (T.done (gx X (A.deeper ce) sc H1 ce fp [(a, go)]) rfl rfl rfl hc i _ s _ H (fun _ _ => False) I (stat I hn) st stop) fun r s1 ⟨hr, I1⟩ => ?_
      subst hr
      rw [List.append_nil] at hys
      subst hys
      have I1' : Inv (gx X (A.deeper ce) sc H1 ce fp [(a, go)]) (cp o us c ++ []) (wipe σ (own.map (·.2))) H s1 := by rw [List.append_nil]; exact I1
      exact seg_end (.ok .next) ⟨rfl, rfl, rfl, us, m, H, hul, fact I1' e rv vl, ownP I1', hm⟩
    · cases hg
  | cons w ws ih =>
    intro i us yd rest vs M m H c s₀ s hd hi hg hys hul I st hn e hm rv vl
    obtain ⟨hw, hd2, hlt⟩ := drop_cons hd
    unfold gloop at hg
    split at hg
    · rename_i ok
      split at hg
      · rename_i ρ1 hdn
        obtain ⟨k, M1, hk, hg⟩ := noEx_bind hg
        obtain ⟨hgo, hy⟩ := (hJ i m z H M e (fun _ q => .inl q) hm ok).1 w hw
        show Seg _ A _ _ _ s₀ _ ((compTurn (.GeneratorExp elt [⟨tgE, iter, ifs, 0⟩] scope gpos) 0 (.ref it) .none ce).onRaise (leaving ce)) [] s
        rw [compTurn_gen, Sem.onRaise_eq_wrap]
        refine seg_bind_wrap (wpAny_standAt ?_)
        refine seg_bind_wrap ?_
        rw [over_gen]
        refine thnF (T.item (gx X (A.deeper ce) sc H1 ce fp [(a, go)]) rfl rfl rfl hc i _ s _ H (fun _ _ => False) I (stat I hn) st hgo) fun r s6 ⟨u, hr, h6⟩ => ?_
        subst hr
        refine seg_bind_wrap ?_
        rw [over_gen]
        refine thnF h6 fun _ s7 ⟨x, H7, I7, r7, y7, st7, n7⟩ => ?_
        obtain ⟨e2, hm2, k2, rw2⟩ := hy x H7 y7
        have I7' := I7.pinned (stat I7 n7) (T.obj _ _ st7)
        obtain ⟨σ1, h1, h2, h3⟩ := Tg.run (hs0.mono (e.trans e2)) rw2 hdn
        refine seg_bind_wrap ?_
        rw [over_gen]
        refine thnF (pg.run _ s7 _ H7 x u (fun σ8 H8 => σ8 = σ1 ∧ H8 = H7) I7' r7 (h1 _ ⟨rfl, rfl⟩)) fun _ s8 ⟨σ8, H8, I8, q8⟩ => ?_
        obtain ⟨rfl, rfl⟩ := q8
        refine seg_bind_wrap ?_
        rw [over_gen]
        refine thnF (pt.run _ s8 σ8 H8 (fun b H9 => b = k ∧ ∃ m9, Ext m H8 m9 H9 ∧ RM X.K m9 z H9 M1) I8 ⟨m, z, ρ1, M, h2, hm2, by rw [hk]; exact fun m' H' e' hm' => ⟨rfl, m', e', hm'⟩⟩) fun b s9 ⟨H9, I9, eb, m9, e9, hm9⟩ => ?_
        subst eb
        -- back to the head of a turn
        have fin : ∀ {us' : List Value} {c' : Nat × Nat} {s' : Shared} {H' : Hp}, Inv (gx X (A.deeper ce) sc H1 ce fp [(a, go)]) (cp o us' c' ++ pinsAt fp s7.heap) σ8 H' s' → Inv (gx X (A.deeper ce) sc H1 ce fp [(a, go)]) (cp o us' c') (wipe σ (own.map (·.2))) H' s' ∧ tn (i + 1) s'.heap ∧ ∀ b ∈ fp, H' b = none := fun {us' c' s' H'} I' => by
          have pin' : ∀ b ∈ fp, ∀ o, s7.heap.get? b = some o → s'.heap.get? b = some o ∧ H' b = none := fun b hb o e =>
            let z := I'.pin (b, o) (List.mem_append_right _ (List.mem_append_right _ (mem_pinsAt hb e)))
            ⟨z.1, z.2.1⟩
          have hw8 : wipe σ8 (own.map (·.2)) = wipe σ (own.map (·.2)) := by rw [h3 _ hsl, wipe_wipe fun _ q => q]
          have hl : (wipe σ (own.map (·.2))).length = σ8.length := by rw [← hw8, wipe_length]
          refine ⟨(I'.unpinned).weak hl (fun j v e => ?_), T.keep _ _ _ st7 fun b hb o e => (pin' b hb o e).1, fun b hb => ?_⟩
          · rw [← hw8] at e
            exact (wipe_some e).1
          · obtain ⟨o, e, _⟩ := T.obj _ _ st7 b hb
            exact (pin' b hb o e).2
        have e19 := (e.trans e2).trans e9
        have rv9 := (RWs.mono e2 rv).mono e9
        cases b with
        | false =>
          simp only [Bool.false_eq_true, if_false] at hg ⊢
          obtain ⟨I10, st10, n10⟩ := fin I9
          exact seg_again rfl (ih (i + 1) us yd rest vs M1 m9 H9 c s₀ s9 hd2 hlt hg hys hul I10 st10 n10 e19 hm9 rv9 vl)
        | true =>
          simp only [if_true] at hg ⊢
          obtain ⟨y, M2, hy2, hg⟩ := noEx_bind hg
          have hyo : ∀ v, yieldOut ce v = yieldValue v := fun v => by simp only [yieldOut, hco, Bool.false_eq_true, if_false]
          simp only [hyo]
          rw [Sem.bind_eq_wrap', Sem.bind_eq_wrap', Sem.wrap_wrap, Sem.wrap_wrap]
          refine seg_wrap ?_
          rw [over_gen]
          refine thnF (pe.run _ s9 σ8 H9 (fun v H' => ∃ m', Ext m9 H9 m' H' ∧ RM X.K m' z H' M2 ∧ RW X.K m' z H' v y) I9 ⟨m9, z, ρ1, M1, h2.mono e9, hm9, by rw [hy2]; exact fun m' H' e' hm' v rv => ⟨m', e', hm', rv⟩⟩) fun v s10 ⟨yv, H10, I10, r10, m10, e10, hm10, ry⟩ => ?_
          have rv10 := rv9.mono e10
          have e110 := e19.trans e10
          have rvs : RWs X.K m10 z H10 (vs ++ [yv]) (yd ++ [y]) := RWs.snoc rv10 ry
          have vls : Vals (vs ++ [yv]) (us ++ [v]) := vl.append (.cons r10 .nil)
          have apt : ∀ {H' : Hp} {σ' : L2.St} {s' : Shared} {us' : List Value} {c' : Nat × Nat}, Inv (gx X (A.deeper ce) sc H1 ce fp [(a, go)]) (cp o us' c' ++ pinsAt fp s7.heap) σ' H' s' → Apt (gx X (A.deeper ce) sc H1 ce fp [(a, go)]) (pinsAt fp s7.heap) H' o := fun {H' σ' s' us' c'} I' => ⟨fun S eS => by
            obtain ⟨q1, q2, q3, q4, q5, q6⟩ := hap S eS
            refine ⟨q1, q2, q3, fun p hp => ?_, oS I' S eS, q6⟩
            rcases List.mem_append.mp hp with hp | hp
            · rw [List.mem_singleton.mp hp]
              exact fun z => q4 z.symm
            · exact fun z => q5 (by rw [← z]; exact (of_pinsAt hp).1)⟩
          by_cases hst : stop y = true
          · rw [if_pos hst] at hg
            cases hg
            refine seg_at (seg_yield rfl rfl rfl ⟨us, m10, H10, ?_, ?_, ownP I10, fun _ _ => hm10, fun q => absurd (q rfl) Bool.noConfusion⟩)
            · rw [hys, List.length_append, hul]
              rfl
            · have q : ys.take (us.length + 1) = yd ++ [y] := by
                rw [hys, hul, List.take_of_length_le (by rw [List.length_append]; exact Nat.le_refl _)]
              rw [q]
              exact fact I10 e110 rvs vls
          · rw [if_neg hst] at hg
            obtain ⟨p, M3, hp, hg⟩ := bindOk hg
            obtain ⟨p1, p2⟩ := p
            cases hg
            have hys2 : ys = (yd ++ [y]) ++ p1 := by rw [hys, List.append_assoc]; rfl
            refine seg_at (seg_yield rfl rfl rfl ⟨us, m10, H10, ?_, ?_, ownP I10, fun hn0 he => ?_, fun _ s' hsl' => ?_⟩)
            · show us.length + p1.length + 1 = _
              rw [hys2, List.length_append, List.length_append, hul, List.length_singleton]
              omega
            · have q : ys.take (us.length + 1) = yd ++ [y] := by
                rw [hys2, hul, List.take_append_of_le_length (by rw [List.length_append]; exact Nat.le_refl _), List.take_of_length_le (by rw [List.length_append]; exact Nat.le_refl _)]
              rw [q]
              exact fact I10 e110 rvs vls
            · have e1 : p1 = [] := List.length_eq_zero_iff.mp hn0
              have e2 : p2 = true := he
              rw [e1, e2] at hp
              exact absurd hp gloop_early
            · obtain ⟨c', I11⟩ := woken I10 (apt I10) hsl'
              obtain ⟨I12, st12, n12⟩ := fin I11
              exact seg_again rfl (ih (i + 1) (us ++ [v]) (yd ++ [y]) p1 (vs ++ [yv]) M2 m10 H10 c' s' s' hd2 hlt hp hys2 (by rw [List.length_append, List.length_append, hul]; rfl) I12 st12 n12 e110 hm10 rvs vls)
      · cases hg
    · cases hg
end
end By
namespace By
open PySem PySem.Spec PyProof.Rows L2
noncomputable def dGx (P : Addr) (stop : W → Bool) (ti : DI) (tg : Tg) (c : DT) (te : DE) (vs : List Nat) : Rho → Mem → R (List W × Bool) := fun ρ M =>
  (ti ρ M).bind fun p M1 => open Classical in if O.tbl P ∈ M1 then gloop stop p.1 p.2 tg c te (wipeR ρ vs) p.1 M1 else .bot
theorem gloop_noex {stop : W → Bool} {all : List W} {g : Gd} {tg : Tg} {c : DT} {te : DE} {ρ0 : Rho} {x : Exn} {M' : Mem} : ∀ {ws : List W} {M : Mem}, gloop stop all g tg c te ρ0 ws M ≠ .ex x M'
  | [], M => fun h => by
    unfold gloop at h
    split at h <;> cases h
  | w :: ws, M => fun h => by
    unfold gloop at h
    split at h
    · split at h
      · obtain ⟨k, M1, _, h⟩ := noEx_not h
        split at h
        · obtain ⟨y, M2, _, h⟩ := noEx_not h
          split at h
          · cases h
          · cases q : gloop stop all g tg c te ρ0 ws M2 with
            | ok p M3 => rw [q] at h; cases h
            | ex x M3 => exact gloop_noex q
            | bot => rw [q] at h; cases h
        · exact gloop_noex h
      · cases h
    · cases h
/-- a generator that has not begun -/
structure GRdy (X : Cx) (z : List Addr) (sc : Shared) (m1 : List Addr) (H1 : Hp) (fp : List Addr) (a : Addr) (g : Nat) (code : Code) (ys : List W) (early : Bool) (Mf : Mem) (s5 : Shared) : Prop where
  lo : sc.heap.objs.size ≤ a
  hi : a < s5.heap.objs.size
  gen : s5.heap.IsGen a g
  fresh : s5.gens[g]? = some (.fresh code)
  os : s5.os = sc.os
  bare : AllBare s5.gens
  nl : s5.heap.NoLimit
  keep : ∀ b o, sc.heap.get? b = some o → s5.heap.get? b = some o
  wake : ∀ (A : Around) (o : Tk) (s2 : Shared), A.handled = none → A.frames = some X.stack → A.guards = X.A.guards → A.depth = X.A.depth → A.units ≤ X.A.units + 12 → (∀ S, o.ad = some S → s5.heap.objs.size ≤ S) →
    (∀ b ob, s5.heap.get? b = some ob → s2.heap.get? b = some ob) → (∃ c, ∀ p ∈ cp o [] c, s2.heap.get? p.1 = some p.2) → s2.os = s5.os → AllBare s2.gens →
    Seg (model X.prog X.w) A (GEnd' (GP X z fp sc m1 H1 a g o ys early Mf)) (GY X z fp sc m1 H1 a g o ys early Mf) ys.length s2 code ((model X.prog X.w).den code) [] s2
/-- the scope of a generator expression -/
structure GScp (scope : Scope) : Prop where
  co : scope.isCoroutine = false
  cell : ∀ y ∈ scope.names, y.2 ≠ .cell
  dot : scope.names.lookup (".0" : Str) = some NameKind.local
section
variable {X : Cx} {pins : List (Addr × Obj)} {σ : L2.St} {H : Hp} {s : Shared} {E : XK} {tgE elt iter : Expr} {ifs : List Expr} {scope : Scope} {own : List (Str × Nat)} {gpos : Pos} {ti : DI} {tg : Tg} {tt : DT} {te : DE} {stop : W → Bool} {fin : List W × Bool → Mem → R W} {Q : VK} {Q' : Value → Shared → Prop} {c P : Addr} {lv : Nat}
theorem gen_eval (hcalm : X.calm = true) (hN : X.N.Nodup) (hgd : X.A.guards = some []) (hr : Room (lv + 1) X.A) (TB : GxR.TabB X.base X.mg c P) (hcode : X.env.code = .ref c) (hi : QI X E tgE iter ti) (ok : BlkOk X.N X.env.scope scope own) (S : GScp scope)
    (hb : ∀ (A : Around) (s : Shared) (H : Hp) (C : Addr) (cl : List (Str × Addr)) (code : Value) (fp : List Addr) (pn : List (Addr × Obj)), A.guards = some [] → Room lv A →
      PG (gx X A s H (genEnv scope cl C code builtinsNs X.env) fp pn) tgE (tg.g X.K) ∧ QTs (gx X A s H (genEnv scope cl C code builtinsNs X.env) fp pn) ifs tt ∧ QE (gx X A s H (genEnv scope cl C code builtinsNs X.env) fp pn) E0 elt te)
    (hsl : ∀ i ∈ tg.slots, i ∈ own.map (·.2)) (hfold : ∀ v, genFold iter X.env v = pure v) (I : Inv X pins σ H s)
    (h : ∃ m z ρ M, RS X.K m z H σ ρ ∧ RM X.K m z H M ∧ Post X.K z E m H (kE X.K z Q) ((dGx P stop ti tg tt te (own.map (·.2)) ρ M).bind fin))
    (hQ : ∀ (z m1 : List Addr) (H1 : Hp) (sc : Shared) (fp : List Addr) (a : Addr) (g : Nat) (code : Code) (ys : List W) (early : Bool) (Mf : Mem) (s5 : Shared), Inv X pins σ H1 sc → ExOk X pins fp → (∀ b ∈ fp, b < sc.heap.objs.size) → GRdy X z sc m1 H1 fp a g code ys early Mf s5 →
      Post X.K z E m1 H1 (kE X.K z Q) (fin (ys, early) Mf) → Q' (.ref a) s5) :
    wpAny (model X.prog X.w) X.A (eval (.GeneratorExp elt [⟨tgE, iter, ifs, 0⟩] scope gpos) X.env) Q' X.xe s := by
  obtain ⟨m, z, ρ, M, hs, hm, hp⟩ := h
  have hfree : ∀ y ∈ scope.names, y.2 = .free → ∃ c, X.env.cells.lookup y.1 = some c := fun y hy e => by
    rcases ok.free y hy e with k | k
    · exact I.ok.has _ (.inl k)
    · exact I.ok.has _ (.inr k)
  have hp' : Post X.K z E m H (kE X.K z Q) ((ti ρ M).bind fun p M1 => (open Classical in if O.tbl P ∈ M1 then gloop stop p.1 p.2 tg tt te (wipeR ρ (own.map (·.2))) p.1 M1 else .bot : R (List W × Bool)).bind fin) := by
    rw [← R.bind_assoc]
    exact hp
  refine wpAny_GeneratorExp_make S.co (closure_ok hfree) S.cell S.dot ok.kind (by have := hr.dp; omega) ?_ hfold
  refine thn (hi.run pins s σ H (fun J H1 => ∃ (m1 : List Addr) (p : List W × Gd) (M1 : Mem), Ext m H m1 H1 ∧ RM X.K m1 z H1 M1 ∧ ItOk X.K z J p.1 p.2 m1 H1 ∧ Post X.K z E m1 H1 (kE X.K z Q) ((open Classical in if O.tbl P ∈ M1 then gloop stop p.1 p.2 tg tt te (wipeR ρ (own.map (·.2))) p.1 M1 else .bot : R (List W × Bool)).bind fin)) I
    ⟨m, z, ρ, M, hs, hm, (Post.unbind hp').imp fun p M1 m1 H1 _ e1 hm1 hp1 hgo J hJ => ⟨m1, p, M1, e1, hm1, hJ, hp1⟩⟩) fun xv s1 hx => thn hx fun itv s2 h2 => ?_
  obtain ⟨it, fp, tn, J, H2, e, I2, T, st2, f2, m1, ⟨all, gd⟩, M1, e1, hm1, hJ, hp1⟩ := h2
  subst e
  have hp1' : Post X.K z E m1 H2 (kE X.K z Q) ((open Classical in if O.tbl P ∈ M1 then gloop stop all gd tg tt te (wipeR ρ (own.map (·.2))) all M1 else .bot : R (List W × Bool)).bind fin) := hp1
  split at hp1'
  case isFalse => exact hp1'.elim
  case isTrue htb =>
  cases hgl : gloop stop all gd tg tt te (wipeR ρ (own.map (·.2))) all M1 with
  | bot => rw [hgl] at hp1'; exact hp1'.elim
  | ex x M' => exact absurd hgl gloop_noex
  | ok p Mf =>
  obtain ⟨ys, early⟩ := p
  rw [hgl] at hp1'
  have hfin : Post X.K z E m1 H2 (kE X.K z Q) (fin (ys, early) Mf) := hp1'
  -- the table
  obtain ⟨j, hj, ej⟩ := List.getElem_of_mem htb
  have hMj : M1[j]? = some (.tbl P) := by rw [List.getElem?_eq_getElem hj, ej]
  obtain ⟨P', hmj, eP, ps, hP, ht⟩ := hm1.addr hMj
  subst eP
  have hPs : s2.heap.get? P' = some { cls := .none, data := .fields ps } := I2.hok P' _ hP
  have hPlt : P' < s2.heap.objs.size := Heap.lt_size hPs
  have cd : PySem.W.CodeHd s2.heap c P' := TB.code.keeps fun b u e => I2.bk b u e
  have sz : ∀ b ∈ fp, b < s2.heap.objs.size := fun b hb => by
    obtain ⟨o, e, _⟩ := T.obj _ _ st2 b hb
    exact Heap.lt_size e
  have nP : ∀ b ∈ fp, b ≠ P' := fun b hb q => by
    have := (f2 b hb).1
    rw [q, hP] at this
    cases this
  have cont : ∀ (code : Value) (h3 : Heap) (tk : Nat) (ps' : Array Value), Heap.ExtBut P' s2.heap h3 → s2.heap.objs.size ≤ h3.objs.size → h3.get? P' = some { cls := .none, data := .fields ps' } → (∃ more, ps' = ps ++ more) → TriplesOk ps'.toList →
      wpAny (model X.prog X.w) X.A (builtinsFor X.env.globals X.env.builtins) (fun bi s₄ => ∀ h', h'.Ns s₄.heap.objs.size (fun y => if y = ".0" then some (.ref it) else none) → Heap.SameBut s₄.heap.objs.size (s₄.heap.push { cls := .type "frame", data := .dict #[] }) h' →
          Q' (.ref h'.objs.size) { s₄ with
            gens := s₄.gens.push (.fresh (.compStart (.GeneratorExp elt [⟨tgE, iter, ifs, 0⟩] scope gpos) 0 (.ref it) .none (genEnv scope (cloFrom X.env.cells scope.names []) s₄.heap.objs.size code bi X.env))),
            toks := s₄.toks + 1 + 1 + 1,
            heap := h'.push { cls := .type "generator", data := .fields #[.int s₄.gens.size 0, .str "<genexpr>" (s₄.toks + 1), .str (X.env.qual ++ "<genexpr>") (s₄.toks + 1 + 1)] } }) X.xe { s2 with heap := h3, toks := tk } := by
    intro code h3 tk ps' hx hsz hP3 hmore ht3
    obtain ⟨more, em⟩ := hmore
    subst em
    obtain ⟨bm, ob, b1, b2, b3, b4, b5, b6, b7, b8⟩ := TB.bm
    refine wpAny_builtinsFor (m := X.mg) (by rw [I2.ok.glob]; exact (I2.mod.glob.keeps I2.bk).extBut hx TB.gP) b1 b2 (hx _ _ b4 (I2.bk _ _ b5)) b6 b7 b8 ?_
    intro h4 hns hsb
    -- the state that the frame is made in
    generalize hsc : ({ s2 with heap := h3, toks := tk } : Shared) = sc at hns hsb ⊢
    have hsch : sc.heap = h3 := by rw [← hsc]
    have Jc : Inv X pins σ (upd H2 P' (.tbl (ps ++ more))) sc := by
      have q := GxR.inv_tab (more := more) (h' := h3) (g' := s2.gens) (d' := s2.drawn) (t' := tk) I2 hP (fun b u hb e => hx b u hb e) hP3 I2.bare
      rw [← hsc]
      exact q
    have e2 : Ext m1 H2 m1 (upd H2 P' (.tbl (ps ++ more))) := Ext.write (List.mem_of_getElem? hmj)
    have hm2 : RM X.K m1 z (upd H2 P' (.tbl (ps ++ more))) M1 := by
      have q := hm1.write (o := .tbl (ps ++ more)) (ob := .tbl P') hmj ⟨rfl, _, upd_same, ht3⟩
      have e : M1.set j (.tbl P') = M1 := by
        rw [← ej]
        exact List.set_getElem_self hj
      rw [e] at q
      exact q
    have hfin2 := Post.mono e2 hfin
    have hJ2 : ItOk X.K z J all gd m1 (upd H2 P' (.tbl (ps ++ more))) := fun i m' z' H' M' ex hz hm' hg' => hJ i m' z' H' M' (e2.trans ex) (fun b hb => (hz b hb).imp id fun q => by
      by_cases hbP : b = P'
      · rw [hbP, upd_same] at q; cases q
      · rw [upd_ne hbP] at q; exact q) hm' hg'
    have st3 : tn 0 sc.heap := T.keep _ _ _ st2 fun b hb o e => by rw [hsch]; exact hx b o (nP b hb) e
    have f3 : ∀ b ∈ fp, FpOk X pins (upd H2 P' (.tbl (ps ++ more))) b ∧ b < sc.heap.objs.size := fun b hb => by
      refine ⟨⟨?_, (f2 b hb).2⟩, by rw [hsch]; exact Nat.lt_of_lt_of_le (sz b hb) hsz⟩
      rw [upd_ne (nP b hb)]
      exact (f2 b hb).1
    have hsz4 : h4.objs.size = sc.heap.objs.size + 1 := by rw [hsb.1, Heap.size_push]
    have keep4 : ∀ b o, sc.heap.get? b = some o → h4.get? b = some o := fun b o e => hsb.extBut b o (Nat.ne_of_lt (Heap.lt_size e)) (Heap.get?_push_of_some _ e)
    generalize hgo : ({ cls := .type "generator", data := .fields #[.int sc.gens.size 0, .str "<genexpr>" (sc.toks + 1), .str (X.env.qual ++ "<genexpr>") (sc.toks + 1 + 1)] } : Obj) = go
    have keep5 : ∀ b o, sc.heap.get? b = some o → (h4.push go).get? b = some o := fun b o e => Heap.get?_push_of_some _ (keep4 b o e)
    have hgen : ∀ h : Heap, h.get? h4.objs.size = some go → h.IsGen h4.objs.size sc.gens.size := fun h e => ⟨go, _, _, e, by rw [← hgo], by rw [← hgo], by rw [← hgo]⟩
    have hgo5 : (h4.push go).get? h4.objs.size = some go := Heap.get?_push_size _ (by rw [← hgo]; rfl)
    generalize hce : genEnv scope (cloFrom X.env.cells scope.names []) sc.heap.objs.size code builtinsNs X.env = ce
    refine hQ z m1 _ sc fp h4.objs.size sc.gens.size (.compStart (.GeneratorExp elt [⟨tgE, iter, ifs, 0⟩] scope gpos) 0 (.ref it) .none ce) ys early Mf _ Jc (fun b hb => ⟨(f3 b hb).1.2.2.2.1, (f3 b hb).1.2.1, (f3 b hb).1.2.2.2.2.1, (f3 b hb).1.2.2.2.2.2⟩) (fun b hb => (f3 b hb).2) ?_ hfin2
    refine ⟨by omega, by show _ < (h4.push go).objs.size; rw [Heap.size_push]; exact Nat.lt_succ_self _, hgen _ hgo5, by show (sc.gens.push _)[sc.gens.size]? = _; rw [Array.getElem?_push_size], rfl, AllBare.push Jc.bare rfl, Jc.nolimit.keeps keep5, keep5, ?_⟩
    intro A o s2' hA1 hA2 hA3 hA4 hA5 hoS hk2 hown hos hbare
    have hL : ce.locals = sc.heap.objs.size := by rw [← hce]; rfl
    have rA : Room lv (A.deeper ce) := ⟨hA1, by have := hr.dp; show A.depth + 1 + 3 * lv + 5 < _; omega, by have := hr.un; show A.units + 3 + 16 * lv + 200 < _; omega⟩
    have gA : (A.deeper ce).guards = some [] := by
      show A.guards = _
      rw [hA3, hgd]
    have keepS : ∀ b ob, sc.heap.get? b = some ob → s2'.heap.get? b = some ob := fun b ob e => hk2 b ob (keep5 b ob e)
    have I4 : Inv (gx X (A.deeper ce) sc (upd H2 P' (.tbl (ps ++ more))) ce fp [(h4.objs.size, go)]) [] (wipe σ (own.map (·.2))) (upd H2 P' (.tbl (ps ++ more))) s2' := by
      refine gx_start Jc ok S.cell hN hce.symm f3 hA1 (Around.frames_deeper hA2) hos hbare keepS ⟨_, (hns.push go).keeps hk2⟩ fun p hp => ?_
      rw [List.mem_singleton.mp hp]
      refine ⟨hk2 _ _ hgo5, Jc.hok.fresh (by show _ ≤ h4.objs.size; omega), by show h4.objs.size ≠ _; omega, fun hq => ?_, fun v q => ?_⟩
      · obtain ⟨_, ob, ho, _⟩ := Jc.stack.mem hq
        have h1 : h4.objs.size < sc.heap.objs.size := by
          obtain ⟨o2, e⟩ : ∃ o, sc.heap.get? h4.objs.size = some o := ⟨_, ho⟩
          exact Heap.lt_size e
        omega
      · rw [← hgo] at q
        cases q
    have hap : ∀ S, o.ad = some S → sc.heap.objs.size ≤ S ∧ S ≠ ce.locals ∧ (∀ x c, ce.cells.lookup x = some c → c ≠ S) ∧ S ≠ h4.objs.size ∧ S ∉ fp ∧ S ∉ frs X.stack := fun S eS => by
      have h1 : (h4.push go).objs.size ≤ S := hoS S eS
      rw [Heap.size_push, hsz4] at h1
      have h2 : sc.heap.objs.size < S := Nat.lt_of_lt_of_le (Nat.lt_succ_of_lt (Nat.lt_succ_self _)) h1
      have h3 : h4.objs.size < S := by rw [hsz4]; exact h1
      refine ⟨Nat.le_of_lt h2, by rw [hL]; exact Nat.ne_of_gt h2, fun x c e q => ?_, Nat.ne_of_gt h3, fun q => ?_, fun hq => ?_⟩
      · rw [← hce] at e
        rcases cloFrom_mem (PySem.mem_of_lookup (show (cloFrom X.env.cells scope.names []).lookup x = some c from e)) with q1 | ⟨q1, q2⟩
        · cases q1
        · obtain ⟨c', hc'⟩ := hfree _ q1 rfl
          rw [show X.env.cells.lookup x = some c' from hc'] at q2
          have q3 : c = c' := q2
          obtain ⟨w, zc⟩ := Jc.cell x c' hc'
          have q4 := zc.lt
          rw [← q3, q] at q4
          exact absurd (Nat.lt_trans q4 h2) (Nat.lt_irrefl _)
      · exact absurd (Nat.lt_trans (f3 S q).2 h2) (Nat.lt_irrefl _)
      · obtain ⟨_, ob, ho, _⟩ := Jc.stack.mem hq
        exact absurd (Nat.lt_trans (Heap.lt_size ho) h2) (Nat.lt_irrefl _)
    obtain ⟨c0, I5⟩ := cp_fresh (ip := []) (o := o) (us := []) I4 ⟨fun S eS => by
      obtain ⟨q1, q2, q3, q4, q5, q6⟩ := hap S eS
      refine ⟨q1, q2, q3, fun p hp => ?_, Jc.hok.fresh q1, q6⟩
      rw [List.append_nil] at hp
      rw [List.mem_singleton.mp hp]
      exact fun q => q4 q.symm⟩ hown
    rw [List.append_nil] at I5
    have hbb := hb (A.deeper ce) sc (upd H2 P' (.tbl (ps ++ more))) sc.heap.objs.size (cloFrom X.env.cells scope.names []) code fp [(h4.objs.size, go)] gA rA
    rw [hce] at hbb
    obtain ⟨pg, pt, pe⟩ := hbb
    have st5 : tn 0 s2'.heap := T.keep _ _ _ st3 fun b _ ob e => keepS b ob e
    have hs5 : RS X.K m1 z (upd H2 P' (.tbl (ps ++ more))) (wipe σ (own.map (·.2))) (wipeR ρ (own.map (·.2))) := ((hs.mono e1).mono e2).wiped _
    have loop := gen_turns (ys := ys) (elt := elt) (iter := iter) (ifs := ifs) (scope := scope) (gpos := gpos) (A := A) (stop := stop) (o := o) (Mf := Mf) (early := early) (gn := sc.gens.size) hcalm T hJ2 hsl (by rw [← hce]; exact S.co) hgen
      (fun hq => absurd (f3 _ hq).2 (by rw [hsz4]; exact Nat.not_lt_of_le (Nat.le_succ _))) hap pg pt pe hs5 all 0 [] [] ys [] M1 m1 (upd H2 P' (.tbl (ps ++ more))) c0 s2' s2' rfl (Nat.zero_le _) hgl rfl rfl I5 st5 (fun b hb => (f3 b hb).1.1) (Ext.refl _ _) hm2 .nil .nil
    -- its start
    have hh' : (A.over (.compStart (.GeneratorExp elt [⟨tgE, iter, ifs, 0⟩] scope gpos) 0 (.ref it) .none ce) []).handled = none := hA1
    show Seg _ A _ _ _ _ _ ((compStart (.GeneratorExp elt [⟨tgE, iter, ifs, 0⟩] scope gpos) 0 (.ref it) .none ce).onRaise (leaving ce)) [] _
    unfold compStart
    rw [Sem.onRaise_eq_wrap]
    show Seg _ A _ _ _ _ _ ((ask >>= _).wrap _ _ _ _) [] _
    refine seg_bind_wrap (wpAny_askSetting ?_)
    split
    · exact seg_again rfl loop
    · first
        | exact seg_bind_wrap (wpAny_rule (seg_bind_wrap (wpAny_standAt (seg_bind_wrap (T.self _ 0 _ _ _ st5 (seg_again rfl loop))))))
        | (refine seg_bind_wrap (wpAny_rule ?_); show Seg _ A _ _ _ _ _ ((standAt iter.pos >>= _).wrap _ _ _ _) [] _; exact seg_bind_wrap (wpAny_standAt (seg_bind_wrap (T.self _ 0 _ _ _ st5 (seg_again rfl loop)))))
  refine ⟨I2.nolimit, ?_⟩
  cases hf : codeAmong gpos ps.toList with
  | none =>
    refine wpAny_genexprCodeX hcode (cd.code hPs ht) (cd.tab hPs) hf fun c' h' tk hx hge hlt hco' _ htab' _ => ?_
    obtain ⟨o1, vs, f1, tf, fl, tg, inF, tx, tt, op, _, _, _, _, _, _, _, _, _, htr, _⟩ := hco'
    exact cont _ h' tk _ hx (Nat.le_trans hge (Nat.le_of_lt hlt)) htab'.2 ⟨_, rfl⟩ htr
  | some cv =>
    refine wpAny_genexprCode_hit hcode (cd.code hPs ht) hf ?_
    exact cont cv s2.heap s2.toks ps (Heap.ExtBut.refl _ _) (Nat.le_refl _) hPs ⟨#[], by simp⟩ ht
end
end By
namespace By
open PySem PySem.Spec PyProof.Rows L2
open Sem (wp)
open AutoSeq1 (wpAny_loadPart')
theorem sleep_push {S : Addr} {us : List Value} {v : Value} {s : Shared} {G : Array GenState} {c : Nat} (hS : s.heap.get? S = some (lstObj us.toArray c)) (hG : AllBare G) : Sleep (lsTk S) us v s { s with gens := G, heap := s.heap.update S (Obj.mapSeq (·.push v)) } where
  os := rfl
  bare := hG
  keep := fun b o hb e => (Heap.get?_update_other _ _ (fun q => hb (by rw [q]))).trans e
  own := ⟨(_, 0), fun p hp => by
    rw [List.mem_singleton.mp hp]
    have q := Heap.get?_update_self (Obj.mapSeq (·.push v)) hS rfl
    have e : us.toArray.push v = (us ++ [v]).toArray := by simp
    show _ = some (lstObj (us ++ [v]).toArray _)
    rw [← e]
    exact q⟩
theorem own_nil {h : Heap} {S : Addr} {c : Nat} (e : h.get? S = some (lstObj #[] c)) : ∃ c, ∀ p ∈ cp (lsTk S) [] c, h.get? p.1 = some p.2 := ⟨(c, 0), fun p hp => by
  rw [List.mem_singleton.mp hp]
  exact e⟩
section
variable {X : Cx} {z fp : List Addr} {sc : Shared} {m1 : List Addr} {H1 : Hp} {a : Addr} {g : Nat} {ys : List W} {Mf : Mem}
theorem drainG {A : Around} {R : Result → Shared → Prop} {S : Addr} {res : Value} (hh : A.handled = none) (hd : A.depth < recursionLimit) (hSa : S ≠ a) (hSc : S ≠ cStatics) (hsz : ys.length ≤ sizeLine)
    (hend : ∀ s' us m H c, us.length = ys.length → GFact X z fp sc m1 H1 a g (lsTk S) us ys m H s' → s'.heap.get? S = some (lstObj us.toArray c) → RM X.K m z H Mf → R (.ok (.ret res)) s') :
    ∀ (n : Nat) (s : Shared), s.heap.IsGen a g → s.heap.NoLimit →
      (∃ gs, s.gens[g]? = some gs ∧ gs.Goes (model X.prog X.w) A.in1.in1 (GEnd' (GP X z fp sc m1 H1 a g (lsTk S) ys false Mf)) (GY X z fp sc m1 H1 a g (lsTk S) ys false Mf) n (.send .none) (s.setGen g .running)) →
      codeAny (model X.prog X.w) A (.builtin "list.extend.loop" ⟨[.ref S, .ref a, res], []⟩) R s := by
  have fin : ∀ (n : Nat) (s s₁ : Shared) (h' : Heap), GP X z fp sc m1 H1 a g (lsTk S) ys false Mf n s s₁ → (∀ b o, s₁.heap.get? b = some o → h'.get? b = some o) → R (.ok (.ret res)) { s₁.setGen g .finished with heap := h' } := fun n s s₁ h' hp hk => by
    obtain ⟨_, _, us, m, H, hl, hf, ⟨⟨c, c2⟩, hown⟩, hm⟩ := hp
    have hS1 := hown (S, lstObj us.toArray c) (List.mem_singleton.mpr rfl)
    exact hend _ us m H c hl ⟨hf.os, allBare_setGen hf.bare rfl, hf.nl.keeps hk, hf.gen.keeps hk, hf.un.trans (Un.kept hk), hf.hok.kept hk, hf.free, hf.ext, hf.vals⟩ (hk _ _ hS1) hm
  intro n
  induction n with
  | zero =>
    intro s hg hl ⟨gs, hgs, hgo⟩
    refine codeAny_builtin F.entry_extend_loop ?_
    rw [Around.under_plainId F.plain_extend_loop _]
    show wpAny _ A.in1 (pyNext (.ref a) >>= _) _ _ s
    refine wpAny_bind (wpAny_pyNext_genexpQ (A := A.in1) hh hl hd hg hgs hgo (fun v s₁ gs' hbare hv => ?_) (fun s₁ hp h' hk => ?_))
    · obtain ⟨us, m', H', hlen, hf, ⟨⟨c, c2⟩, hown⟩, _, hk⟩ := hv
      exact False.elim (hk (fun _ => rfl) _ (sleep_push (hown (S, lstObj us.toArray c) (List.mem_singleton.mpr rfl)) hf.bare))
    · exact wpAny_pure (fin _ _ _ _ hp hk)
  | succ n ih =>
    intro s hg hl ⟨gs, hgs, hgo⟩
    have hgl : g < s.gens.size := (Array.getElem?_eq_some_iff.mp hgs).1
    refine codeAny_builtin F.entry_extend_loop ?_
    rw [Around.under_plainId F.plain_extend_loop _]
    show wpAny _ A.in1 (pyNext (.ref a) >>= _) _ _ s
    refine wpAny_bind (GenW.wpAny_gsz (n := g + 1) hgl (wpAny_pyNext_genexpQ (A := A.in1) hh hl hd hg hgs hgo (fun v s₁ gs' hbare hv => ?_) (fun s₁ hp h' hk => ?_)))
    · intro hsz1
      obtain ⟨us, m', H', hlen, hf, ⟨⟨c, c2⟩, hown⟩, _, hk⟩ := hv
      have hS1 := hown (S, lstObj us.toArray c) (List.mem_singleton.mpr rfl)
      have hasz' : us.toArray.size < sizeLine := by
        rw [List.size_toArray]
        omega
      show wpAny _ A.in1 (updateSeq S (·.push v) >>= _) _ _ _
      refine wpAny_bind ?_
      refine wpAny_updateSeq hS1 rfl (wpAny_pure ⟨plainId_quiet F.plain_extend_loop _, ?_⟩) (Nat.le_of_lt hasz') (by show (us.toArray.push v).size ≤ sizeLine + 1; rw [Array.size_push]; omega)
      have keep3 : ∀ b o, b ≠ S → s₁.heap.get? b = some o → (s₁.heap.update S (Obj.mapSeq (·.push v))).get? b = some o := fun b o hbS e => (Heap.get?_update_other _ _ (Ne.symm hbS)).trans e
      have hsz1 : g < s₁.gens.size := by
        have q : (s₁.setGen g gs').gens.size = s₁.gens.size := GenW.setGen_size _ _ _
        have hsz' : g + 1 ≤ (s₁.setGen g gs').gens.size := hsz1
        omega
      refine ih { s₁.setGen g gs' with heap := s₁.heap.update S (Obj.mapSeq (·.push v)) } ?_ ?_ ⟨gs', setGen_at hsz1, ?_⟩
      · obtain ⟨o, nm, qn, ho, r⟩ := hf.gen
        exact ⟨o, nm, qn, keep3 a o (Ne.symm hSa) ho, r⟩
      · obtain ⟨mc, hns, hnn⟩ := hf.nl
        exact ⟨mc, hns.at' fun o e => keep3 _ o (Ne.symm hSc) e, hnn⟩
      · exact hk (fun _ => rfl) _ (sleep_push hS1 (allBare_setGen (s := s₁.setGen g gs') (allBare_setGen hf.bare hbare) rfl))
    · intro _
      exact wpAny_pure (fin _ _ _ _ hp hk)
/-- all items of a generator that has not begun, put into a list of its own -/
theorem collectG {A : Around} {E : Value → Shared → Prop} {Q : List Value → Shared → Prop} {code : Code} {s : Shared} (hR : GRdy X z sc m1 H1 fp a g code ys false Mf s) (hh : A.handled = none) (hf : A.frames = some X.stack) (hgu : A.guards = X.A.guards) (hdp : A.depth = X.A.depth) (hun : A.units ≤ X.A.units + 6) (hd : A.depth < recursionLimit) (hsz : ys.length ≤ sizeLine)
    (hQ : ∀ s' us m H, us.length = ys.length → GFact X z fp sc m1 H1 a g noTk us ys m H s' → RM X.K m z H Mf → s.heap.objs.size ≤ s'.heap.objs.size → Q us s') : wpAny (model X.prog X.w) A (collect (.ref a)) Q E s := by
  have hSa : s.heap.objs.size ≠ a := Nat.ne_of_gt hR.hi
  have hcl : cStatics < s.heap.objs.size := let ⟨_, hn, _⟩ := hR.nl; hn.lt
  have hSc : s.heap.objs.size ≠ cStatics := Nat.ne_of_gt hcl
  unfold collect
  refine wpAny_bind (wpAny_runValue (codeAny_builtin F.entry_proto_collect ?_))
  rw [Around.under_plainId F.plain_proto_collect _]
  show wpAny _ A.in1 (newList [] >>= fun l => again (.builtin "list.__iadd__" ⟨[l, .ref a], []⟩)) _ _ s
  refine wpAny_bind (wpAny_newObj_type ?_)
  refine wpAny_pure ⟨plainId_quiet F.plain_list_iadd _, codeAny_builtin F.entry_list_iadd ?_⟩
  rw [Around.under_plainId F.plain_list_iadd _]
  have up : ∀ (h : Heap) (f : Obj → Obj), (∀ b o, s.heap.get? b = some o → h.get? b = some o) → ∀ b o, s.heap.get? b = some o → (h.update s.heap.objs.size f).get? b = some o := fun h f q b o e =>
    (Heap.get?_update_other _ _ (Ne.symm (Nat.ne_of_lt (Heap.lt_size e)))).trans (q b o e)
  have k1 : ∀ b o, s.heap.get? b = some o → (s.heap.push { cls := .type "list", data := .seq ([] : List Value).toArray }).get? b = some o := fun b o e => Heap.get?_push_of_some _ e
  have gty : ∀ {h : Heap}, (∀ b o, s.heap.get? b = some o → h.get? b = some o) → h.IsGen a g := fun {h} q => hR.gen.keeps q
  show wpAny _ A.in1 (Builtin.List.listExtendWith (.ref s.heap.objs.size) (.ref a) (.ref s.heap.objs.size)) _ _ _
  unfold Builtin.List.listExtendWith
  refine wpAny_bind (wpAny_typeOf (Heap.IsGen.typeIs (s := { s with heap := _ }) (gty k1)) ?_)
  have h1 : Builtin.List.listSameRef (.ref s.heap.objs.size) (.ref a) = false := by simp [Builtin.List.listSameRef, hSa]
  have h2 : (Value.type "generator" == Value.type "list") = false := by decide
  have h3 : (Value.type "generator" == Value.type "tuple") = false := by decide
  simp only [h1, h2, h3, Bool.or_false, Bool.false_eq_true, if_false]
  refine wpAny_bind (wpAny_pyIter_gen (s := { s with heap := _ }) (gty k1) ?_)
  refine wpAny_bind (wpAny_holding ?_)
  unfold Builtin.List.listLengthHint
  refine wpAny_bind (wpAny_specialOf (Heap.IsGen.typeIs (s := { s with heap := _ }) (gty k1)) F.gen_no_len ?_)
  show wpAny _ A.in1 (specialOf (Value.ref a) (Str.ofString "__length_hint__") >>= _) _ _ _
  refine wpAny_bind (wpAny_specialOf (Heap.IsGen.typeIs (s := { s with heap := _ }) (gty k1)) F.gen_no_hint ?_)
  refine wpAny_pure ?_
  show wpAny _ A.in1 (rule "list.extend.makes-room" >>= fun _ => Builtin.List.listTouch (.ref s.heap.objs.size) >>= fun _ =>
    again (.builtin "list.extend.loop" ⟨[.ref s.heap.objs.size, .ref a, .ref s.heap.objs.size], []⟩)) _ _ _
  refine wpAny_bind (wpAny_rule ?_)
  have hS₁ : (s.heap.push { cls := .type "list", data := .seq ([] : List Value).toArray }).get? s.heap.objs.size = some { cls := .type "list", data := .seq ([] : List Value).toArray } := Heap.get?_push_size _ rfl
  refine wpAny_bind ?_
  show wpAny _ A.in1 (updateSeq s.heap.objs.size (·.push .none) >>= fun _ => updateSeq s.heap.objs.size (·.pop)) _ _ _
  refine wpAny_bind (wpAny_updateSeq hS₁ rfl ?_)
  have hS₂ := Heap.get?_update_self (Obj.mapSeq (·.push Value.none)) hS₁ rfl
  refine wpAny_updateSeq hS₂ rfl ?_
  have hS₃ := Heap.get?_update_self (Obj.mapSeq (·.pop)) hS₂ rfl
  have k3 := up _ (Obj.mapSeq (·.pop)) (up _ (Obj.mapSeq (·.push Value.none)) k1)
  refine wpAny_pure ⟨plainId_quiet F.plain_extend_loop _, drainG (z := z) (fp := fp) (sc := sc) (m1 := m1) (H1 := H1) (Mf := Mf) (A := A) hh hd hSa hSc hsz (fun s' us m H c q1 q2 q3 q4 => ?_) ys.length _ (gty k3) (hR.nl.keeps k3) ⟨_, hR.fresh, rfl, ?_⟩⟩
  · show wpAny _ A (load s.heap.objs.size >>= _) _ _ s'
    refine wpAny_bind (wpAny_load q3 ?_)
    refine wpAny_pure ?_
    have e : us.toArray.toList = us := by simp
    show Q us.toArray.toList s'
    rw [e]
    refine hQ s' us m H q1 ⟨q2.os, q2.bare, q2.nl, q2.gen, q2.un, q2.hok, (fun S q => by cases q), q2.ext, q2.vals⟩ q4 (Nat.le_of_lt (Heap.lt_size q3))
  · refine hR.wake _ (lsTk s.heap.objs.size) _ hh hf hgu hdp (by show A.units + 1 + 1 ≤ _; omega) (fun S q => by cases q; exact Nat.le_refl _) k3 (own_nil hS₃) rfl (allBare_setGen (s := { s with heap := _ }) hR.bare rfl)
theorem code_tuple_gx {A : Around} {E : Value → Shared → Prop} {Q₁ : Value → Shared → Prop} {code : Code} {s : Shared} (hR : GRdy X z sc m1 H1 fp a g code ys false Mf s) (hh : A.handled = none) (hf : A.frames = some X.stack) (hgu : A.guards = X.A.guards) (hdp : A.depth = X.A.depth) (hun : A.units ≤ X.A.units + 3) (hd : A.depth < recursionLimit) (hsz : ys.length ≤ sizeLine)
    (h : ∀ s' us m H, us.length = ys.length → GFact X z fp sc m1 H1 a g noTk us ys m H s' → RM X.K m z H Mf → s.heap.objs.size ≤ s'.heap.objs.size → Q₁ (.ref s'.heap.objs.size) { s' with heap := s'.heap.push { cls := .type "tuple", data := .seq us.toArray } }) :
    codeAny (model X.prog X.w) A (.call (.builtin "tuple.__new__") ⟨[.type "tuple", .ref a], []⟩) (wants Q₁ E) s := by
  refine codeAny_of_tree ?_
  show wpAny _ A.in1 (do checkBuiltinCall "tuple.__new__" ⟨[.type "tuple", .ref a], []⟩; again (.builtin "tuple.__new__" ⟨[.type "tuple", .ref a], []⟩)) _ _ s
  refine wpAny_bind (wpAny_of_eq (F.newCall_tuple_1 _) (wpAny_pure ⟨plainId_quiet F.plain_tuple_new _, codeAny_builtin F.entry_tuple_new ?_⟩))
  rw [Around.under_plainId F.plain_tuple_new _]
  have hsub := sub_tuple_self
  have hinit := init_tuple_lookup
  have hmh := madeHere_tuple
  have hTI : s.TypeIs (.ref a) "generator" := hR.gen.typeIs
  wp_walk using wpAny_typeOf hTI, collectG (A := A.in1) hR hh hf hgu hdp (by show A.units + 1 ≤ _; omega) hd hsz
  intro s' us m H q1 q2 q3 q4
  show wpAny _ _ (Builtin.Tuple.tupleExact us.toArray >>= fun v => ret v) _ _ _
  unfold Builtin.Tuple.tupleExact
  refine wpAny_bind (wpAny_newObj_type ?_ (by show us.toArray.size ≤ sizeLine; rw [List.size_toArray, q1]; exact hsz))
  refine wpAny_pure ?_
  exact h s' us m H q1 q2 q3 q4
theorem call_tuple_gx {A : Around} {E : Value → Shared → Prop} {Q : Value → Shared → Prop} {code : Code} {s : Shared} (hR : GRdy X z sc m1 H1 fp a g code ys false Mf s) (hh : A.handled = none) (hf : A.frames = some X.stack) (hgu : A.guards = X.A.guards) (hdp : A.depth = X.A.depth) (hun : A.units ≤ X.A.units) (hd : A.depth < recursionLimit) (hsz : ys.length ≤ sizeLine)
    (hQ : ∀ s' us m H, us.length = ys.length → GFact X z fp sc m1 H1 a g noTk us ys m H s' → RM X.K m z H Mf → s.heap.objs.size ≤ s'.heap.objs.size → Q (.ref s'.heap.objs.size) { s' with heap := s'.heap.push { cls := .type "tuple", data := .seq us.toArray } }) :
    wpAny (model X.prog X.w) A (call (.type "tuple") [.ref a]) Q E s := by
  refine callType_codes (Q₁ := fun obj s₁ => s₁.TypeIs obj "tuple" ∧ Q obj s₁) F.called_tuple (F.typeCall_tuple_1 _) F.entry_object_init
    (code_tuple_gx hR hh hf hgu hdp (by show A.units + 1 ≤ _; omega) hd hsz fun s' us m H q1 q2 q3 q4 => ⟨⟨_, Heap.get?_push_size _ rfl, rfl⟩, hQ s' us m H q1 q2 q3 q4⟩) fun obj s₁ h₁ => ?_
  exact ⟨h₁.1, F.args_object_init_2 obj _, object_init_meets F.called_tuple.init.lookup F.called_tuple.made (by decide) X.prog X.w A.in1 _ s₁ ⟨h₁.1, rfl, h₁.2⟩⟩
end
end By
namespace By
open PySem PySem.Spec PyProof.Rows L2
open Sem (wp)
/-- all of them True or False -/
def allBw : List W → Option (List Bool)
  | [] => some []
  | .d (.bool b) :: ws => (allBw ws).map (b :: ·)
  | _ :: _ => none
theorem allBw_get : ∀ {ws : List W} {bs : List Bool} {i : Nat} {w : W}, allBw ws = some bs → ws[i]? = some w → ∃ b, bs[i]? = some b ∧ w = .d (.bool b)
  | [], _, _, _, _, h => by cases h
  | .d (.bool b) :: ws, bs, i, w, e, h => by
    unfold allBw at e
    cases q : allBw ws with
    | none => rw [q] at e; cases e
    | some cs =>
      rw [q] at e
      cases e
      cases i with
      | zero => cases h; exact ⟨b, rfl, rfl⟩
      | succ i => exact (allBw_get (ws := ws) (bs := cs) (i := i) (w := w) q h)
theorem allBw_length : ∀ {ws : List W} {bs : List Bool}, allBw ws = some bs → bs.length = ws.length
  | [], _, e => by cases e; rfl
  | .d (.bool b) :: ws, bs, e => by
    unfold allBw at e
    cases q : allBw ws with
    | none => rw [q] at e; cases e
    | some cs =>
      rw [q] at e
      cases e
      rw [List.length_cons, List.length_cons, allBw_length q]
/-- what is asked of the items of all (want = false), any (want = true): the last one alone may be want, and is it just if no more was asked for -/
def lastIs (want : Bool) (bs : List Bool) (early : Bool) : Bool := if early then (bs.dropLast.all (· == !want) && bs.getLast? == some want) else bs.all (· == !want)
theorem lastIs_get {want early : Bool} {bs : List Bool} (h : lastIs want bs early = true) {i : Nat} {b : Bool} (e : bs[i]? = some b) (hl : i + 1 < bs.length ∨ early = false) : b = !want := by
  unfold lastIs at h
  cases early with
  | false =>
    simp only [Bool.false_eq_true, if_false, List.all_eq_true] at h
    exact eq_of_beq (h b (List.mem_of_getElem? e))
  | true =>
    rcases hl with hl | hl
    · simp only [if_true, Bool.and_eq_true, List.all_eq_true] at h
      refine eq_of_beq (h.1 b ?_)
      have : bs.dropLast[i]? = some b := by
        rw [List.getElem?_dropLast, if_pos (by omega)]
        exact e
      exact List.mem_of_getElem? this
    · cases hl
theorem lastIs_last {want : Bool} {bs : List Bool} (h : lastIs want bs true = true) {i : Nat} {b : Bool} (e : bs[i]? = some b) (hl : i + 1 = bs.length) : b = want := by
  unfold lastIs at h
  simp only [if_true, Bool.and_eq_true] at h
  have q : bs.getLast? = some want := eq_of_beq h.2
  rw [List.getLast?_eq_getElem?, ← hl, Nat.add_sub_cancel, e] at q
  cases q
  rfl
section
variable {X : Cx} {z fp : List Addr} {sc : Shared} {m1 : List Addr} {H1 : Hp} {a : Addr} {g : Nat} {ys : List W} {Mf : Mem} {early : Bool} {bs : List Bool}
theorem GFact.bool {o : Tk} {us : List Value} {v : Value} {m : List Addr} {H : Hp} {s : Shared} (h : GFact X z fp sc m1 H1 a g o (us ++ [v]) (ys.take (us.length + 1)) m H s) (hl : us.length < ys.length) (hb : allBw ys = some bs) : ∃ b, bs[us.length]? = some b ∧ v = .bool b := by
  obtain ⟨vs, h1, h2⟩ := h.vals
  obtain ⟨b, e1, e2⟩ := allBw_get hb (List.getElem?_eq_getElem hl)
  refine ⟨b, e1, ?_⟩
  have e3 : (ys.take (us.length + 1))[us.length]? = some (.d (.bool b)) := by
    rw [List.getElem?_take_of_lt (Nat.lt_succ_self _), List.getElem?_eq_getElem hl, e2]
  obtain ⟨x, hx, rx⟩ := RWs.get h2 e3
  cases rx with
  | d rx =>
    cases rx
    obtain ⟨u, hu, ru⟩ := h1.get hx
    rw [List.getElem?_append_right (Nat.le_refl _), Nat.sub_self] at hu
    cases hu
    exact ru
theorem sleep_none {us : List Value} {v : Value} {s : Shared} {G : Array GenState} (hG : AllBare G) : Sleep noTk us v s { s with gens := G } where
  os := rfl
  bare := hG
  keep := fun b o hb e => e
  own := ⟨(0, 0), fun p hp => by cases hp⟩
theorem all_loop {A : Around} {R : Result → Shared → Prop} (hh : A.handled = none) (hd : A.depth < recursionLimit) (hb : allBw ys = some bs) (hw : lastIs false bs early = true)
    (hend : ∀ s' us m H, GFact X z fp sc m1 H1 a g noTk us (ys.take us.length) m H s' → RM X.K m z H Mf → R (.ok (.ret (.bool (!early)))) s') :
    ∀ (n : Nat) (s : Shared), n ≤ ys.length → (early = true → 0 < n) → s.heap.IsGen a g → s.heap.NoLimit →
      (∃ gs, s.gens[g]? = some gs ∧ gs.Goes (model X.prog X.w) A.in1.in1 (GEnd' (GP X z fp sc m1 H1 a g noTk ys early Mf)) (GY X z fp sc m1 H1 a g noTk ys early Mf) n (.send .none) (s.setGen g .running)) →
      codeAny (model X.prog X.w) A (.builtin "all.loop" ⟨[.ref a], []⟩) R s := by
  have fin : ∀ (n : Nat) (s s₁ : Shared) (h' : Heap), GP X z fp sc m1 H1 a g noTk ys early Mf n s s₁ → (∀ b o, s₁.heap.get? b = some o → h'.get? b = some o) → R (.ok (.ret (.bool true))) { s₁.setGen g .finished with heap := h' } := fun n s s₁ h' hp hk => by
    obtain ⟨_, he, us, m, H, hl, hf, _, hm⟩ := hp
    have q := hend { s₁.setGen g .finished with heap := h' } us m H ⟨hf.os, allBare_setGen hf.bare rfl, hf.nl.keeps hk, hf.gen.keeps hk, hf.un.trans (Un.kept hk), hf.hok.kept hk, hf.free, hf.ext, by rw [List.take_of_length_le (by omega)]; exact hf.vals⟩ hm
    rw [he] at q
    exact q
  intro n
  induction n with
  | zero =>
    intro s hn he hg hl ⟨gs, hgs, hgo⟩
    refine codeAny_builtin F.entry_all_loop ?_
    rw [Around.under_plainId F.plain_all_loop _]
    show wpAny _ A.in1 (pyNext (.ref a) >>= _) _ _ s
    refine wpAny_bind (wpAny_pyNext_genexpQ (A := A.in1) hh hl hd hg hgs hgo (fun v s₁ gs' hbare hv => ?_) (fun s₁ hp h' hk => ?_))
    · obtain ⟨us, m', H', hlen, hf, _, _, hk⟩ := hv
      have he' : early = false := by
        cases q : early with
        | false => rfl
        | true => exact absurd (he q) (Nat.lt_irrefl _)
      exact False.elim (hk (fun _ => he') _ (sleep_none hf.bare))
    · exact wpAny_bind (wpAny_rule (wpAny_pure (fin _ _ _ _ hp hk)))
  | succ n ih =>
    intro s hn he hg hl ⟨gs, hgs, hgo⟩
    have hgl : g < s.gens.size := (Array.getElem?_eq_some_iff.mp hgs).1
    refine codeAny_builtin F.entry_all_loop ?_
    rw [Around.under_plainId F.plain_all_loop _]
    show wpAny _ A.in1 (pyNext (.ref a) >>= _) _ _ s
    refine wpAny_bind (GenW.wpAny_gsz (n := g + 1) hgl (wpAny_pyNext_genexpQ (A := A.in1) hh hl hd hg hgs hgo (fun v s₁ gs' hbare hv => ?_) (fun s₁ hp h' hk => ?_)))
    · intro hsz1
      obtain ⟨us, m', H', hlen, hf, _, hfin, hk⟩ := hv
      have hlen' : us.length + n + 1 = ys.length := hlen
      obtain ⟨b, eb, rfl⟩ := hf.bool (by omega) hb
      have hbl := allBw_length hb
      refine wpAny_bind (wpAny_holding (wpAny_truthy_bool ?_))
      refine wpAny_bind (wpAny_letGo ?_)
      cases b with
      | true =>
        simp only [if_true]
        have hne : n = 0 → early = false := fun q => by
          cases r : early with
          | false => rfl
          | true =>
            rw [r] at hw
            have := lastIs_last hw eb (by omega)
            cases this
        have hsz1 : g < s₁.gens.size := by
          have q : (s₁.setGen g gs').gens.size = s₁.gens.size := GenW.setGen_size _ _ _
          have hsz' : g + 1 ≤ (s₁.setGen g gs').gens.size := hsz1
          omega
        refine wpAny_pure ⟨plainId_quiet F.plain_all_loop _, ih (s₁.setGen g gs') (by omega) (fun q => ?_) hf.gen hf.nl ⟨gs', setGen_at hsz1, ?_⟩⟩
        · rcases Nat.eq_zero_or_pos n with r | r
          · rw [hne r] at q; cases q
          · exact r
        · exact hk (fun q => hne q) _ (sleep_none (allBare_setGen (s := s₁.setGen g gs') (allBare_setGen hf.bare hbare) rfl))
      | false =>
        simp only [Bool.false_eq_true, if_false]
        have hn0 : n = 0 ∧ early = true := by
          by_cases q : us.length + 1 < bs.length ∨ early = false
          · have := lastIs_get hw eb q
            cases this
          · exact ⟨by omega, by cases r : early with
              | true => rfl
              | false => exact absurd (.inr r) q⟩
        refine wpAny_bind (wpAny_rule (wpAny_pure ?_))
        have q := hend (s₁.setGen g gs') (us ++ [.bool false]) m' H' ⟨hf.os, allBare_setGen hf.bare hbare, hf.nl, hf.gen, hf.un, hf.hok, hf.free, hf.ext, by rw [List.length_append]; exact hf.vals⟩ (hfin hn0.1 hn0.2)
        rw [hn0.2] at q
        exact q
    · intro _
      exact wpAny_bind (wpAny_rule (wpAny_pure (fin _ _ _ _ hp hk)))
theorem call_all_gx {A : Around} {E : Value → Shared → Prop} {Q : Value → Shared → Prop} {code : Code} {s : Shared} (hR : GRdy X z sc m1 H1 fp a g code ys early Mf s) (hh : A.handled = none) (hf : A.frames = some X.stack) (hgu : A.guards = X.A.guards) (hdp : A.depth = X.A.depth) (hun : A.units ≤ X.A.units) (hd : A.depth < recursionLimit) (hb : allBw ys = some bs) (hw : lastIs false bs early = true) (he : early = true → 0 < ys.length)
    (hQ : ∀ s' us m H, GFact X z fp sc m1 H1 a g noTk us (ys.take us.length) m H s' → RM X.K m z H Mf → Q (.bool (!early)) s') : wpAny (model X.prog X.w) A (call (.builtin "all") [.ref a]) Q E s := by
  refine call_function_tree F.kind_all F.plain_all F.entry_all (F.args_all1 _) ?_
  unfold Builtin.«all»
  refine wpAny_bind (m := oneArg "all" _) (wpAny_pure ?_)
  refine wpAny_bind (wpAny_pyIter_gen hR.gen ?_)
  refine wpAny_pure ⟨plainId_quiet F.plain_all_loop _, all_loop (z := z) (fp := fp) (sc := sc) (m1 := m1) (H1 := H1) (Mf := Mf) (A := A) hh hd hb hw (fun s' us m H q1 q2 => hQ s' us m H q1 q2) ys.length _ (Nat.le_refl _) he hR.gen hR.nl ⟨_, hR.fresh, rfl, ?_⟩⟩
  exact hR.wake _ noTk _ hh hf hgu hdp (by show A.units + 1 + 1 ≤ _; omega) (fun S q => by cases q) (fun _ _ e => e) ⟨(0, 0), fun p hp => by cases hp⟩ rfl (allBare_setGen hR.bare rfl)
end
end By
namespace By
open PySem PySem.Spec PyProof.Rows L2
/-- all items -/
noncomputable def dGc (P : Addr) (ti : DI) (tg : Tg) (c : DT) (te : DE) (vs : List Nat) : DA := fun ρ M =>
  (ti ρ M).bind fun p M1 => open Classical in if O.tbl P ∈ M1 then cloop p.1 p.2 tg c te (wipeR ρ vs) p.1 M1 else .bot
def finT : List W → Mem → R W := fun ws M => match allD ws with
  | some ds => if ws.length ≤ 1000000 then .ok (.d (.tuple ds)) M else .bot
  | none => .bot
noncomputable def dTupG (P : Addr) (ti : DI) (tg : Tg) (c : DT) (te : DE) (vs : List Nat) : DE := fun ρ M => (dGc P ti tg c te vs ρ M).bind finT
theorem gloop_all {all : List W} {g : Gd} {tg : Tg} {c : DT} {te : DE} {ρ0 : Rho} : ∀ (ws : List W) (M : Mem), gloop (fun _ => false) all g tg c te ρ0 ws M = (cloop all g tg c te ρ0 ws M).bind fun xs M' => .ok (xs, false) M'
  | [], M => by
    unfold gloop cloop
    split <;> rfl
  | w :: ws, M => by
    unfold gloop cloop
    split
    · cases tg.den w ρ0 with
      | none => rfl
      | some ρ1 =>
        show R.bind (noEx (c ρ1 M)) _ = R.bind (R.bind (noEx (c ρ1 M)) _) _
        cases noEx (c ρ1 M) with
        | bot => rfl
        | ex e M1 => rfl
        | ok k M1 =>
          show (if k = true then _ else _) = R.bind (if k = true then _ else _) _
          split
          · cases noEx (te ρ1 M1) with
            | bot => rfl
            | ex e M2 => rfl
            | ok x M2 =>
              simp only [R.bind, Bool.false_eq_true, if_false, gloop_all ws M2]
              cases cloop all g tg c te ρ0 ws M2 <;> rfl
          · exact gloop_all ws M1
    · rfl
theorem dGx_all {P : Addr} {ti : DI} {tg : Tg} {c : DT} {te : DE} {vs : List Nat} {ρ : Rho} {M : Mem} {fin : List W → Mem → R W} : (dGx P (fun _ => false) ti tg c te vs ρ M).bind (fun p M' => if p.2 = true then .bot else fin p.1 M') = (dGc P ti tg c te vs ρ M).bind fin := by
  unfold dGx dGc
  cases ti ρ M with
  | bot => rfl
  | ex e M1 => rfl
  | ok p M1 =>
    by_cases h : O.tbl P ∈ M1
    · simp only [R.bind, if_pos h, gloop_all]
      cases cloop p.1 p.2 tg c te (wipeR ρ vs) p.1 M1 with
      | bot => rfl
      | ex e M2 => rfl
      | ok xs M2 => exact if_neg Bool.false_ne_true
    · simp only [R.bind, if_neg h]
/-- all(..), any(..) -/
def isB (b : Bool) : W → Bool
  | .d (.bool c) => c == b
  | _ => false
def finQ (want : Bool) : List W × Bool → Mem → R W := fun p M => match allBw p.1 with
  | some bs => if lastIs want bs p.2 = true ∧ (p.2 = true → 0 < p.1.length) then .ok (.d (.bool (p.2 == want))) M else .bot
  | none => .bot
noncomputable def dAllG (P : Addr) (ti : DI) (tg : Tg) (c : DT) (te : DE) (vs : List Nat) : DE := fun ρ M => (dGx P (isB false) ti tg c te vs ρ M).bind (finQ false)
noncomputable def dAnyG (P : Addr) (ti : DI) (tg : Tg) (c : DT) (te : DE) (vs : List Nat) : DE := fun ρ M => (dGx P (isB true) ti tg c te vs ρ M).bind (finQ true)
section
variable {X : Cx} {E : XK} {tgE elt iter : Expr} {ifs : List Expr} {scope : Scope} {own : List (Str × Nat)} {vs : List Nat} {gpos pos p : Pos} {ti : DI} {tg : Tg} {tt : DT} {te : DE} {c P : Addr} {lv : Nat}
/-- the generator's taker is done: back in the def -/
theorem taken {pins : List (Addr × Obj)} {σ : L2.St} {z m1 m : List Addr} {H1 H : Hp} {sc s' : Shared} {fp : List Addr} {a : Addr} {g : Nat} {us : List Value} {ys : List W} (I : Inv X pins σ H1 sc) (hex : ExOk X pins fp) (f : GFact X z fp sc m1 H1 a g noTk us ys m H s') : Inv X pins σ H s' :=
  I.call' (ch := fp) f.os f.un f.hok f.bare hex
abbrev GBody (X : Cx) (lv : Nat) (scope : Scope) (tgE : Expr) (ifs : List Expr) (elt : Expr) (tg : Tg) (tt : DT) (te : DE) : Prop :=
  ∀ (A : Around) (s : Shared) (H : Hp) (C : Addr) (cl : List (Str × Addr)) (code : Value) (fp : List Addr) (pn : List (Addr × Obj)), A.guards = some [] → Room lv A →
      PG (gx X A s H (genEnv scope cl C code builtinsNs X.env) fp pn) tgE (tg.g X.K) ∧ QTs (gx X A s H (genEnv scope cl C code builtinsNs X.env) fp pn) ifs tt ∧ QE (gx X A s H (genEnv scope cl C code builtinsNs X.env) fp pn) E0 elt te
theorem q_tupG (hc : X.calm = true) (hN : X.N.Nodup) (hgd : X.A.guards = some []) (hr : Room (lv + 1) X.A) (hg : Gl X "tuple") (hm : X.mg "tuple" = none) (TB : GxR.TabB X.base X.mg c P) (hcode : X.env.code = .ref c) (hi : QI X E tgE iter ti) (ok : BlkOk X.N X.env.scope scope own) (S : GScp scope) (hb : GBody X lv scope tgE ifs elt tg tt te)
    (hvs : own.map (·.2) = vs) (hsl : ∀ i ∈ tg.slots, i ∈ vs) (hfold : ∀ v, genFold iter X.env v = pure v := by intro _; rfl)
    (he : starEach [.GeneratorExp elt [⟨tgE, iter, ifs, 0⟩] scope gpos] X.env = (false, eval (.GeneratorExp elt [⟨tgE, iter, ifs, 0⟩] scope gpos) X.env) :: starEach [] X.env := by rfl) :
    QE X E (.Call (.Name "tuple" p) [.GeneratorExp elt [⟨tgE, iter, ifs, 0⟩] scope gpos] [] pos) (dTupG P ti tg tt te vs) := by
  subst hvs
  refine ⟨fun pins s σ H Q I h => ?_⟩
  obtain ⟨m, z, ρ, M, hs, hm', hp⟩ := h
  refine wpAny_Call_Name_kw (ld_blt I hg hm (show bootBuiltins "tuple" = some (.type "tuple") by decide +kernel) ?_ (by decide) (by decide))
  refine PyProof.Rows.callWith_type1 ?_ he rfl
  rw [he]
  show wpAny _ _ (spliced ((false, eval (.GeneratorExp elt [⟨tgE, iter, ifs, 0⟩] scope gpos) X.env) :: backTo pos (starEach [] X.env))) _ _ s
  refine Calls.spliced_cons (gen_eval (stop := fun _ => false) (fin := fun p M' => if p.2 = true then .bot else finT p.1 M') hc hN hgd hr TB hcode hi ok S hb hsl hfold I ⟨m, z, ρ, M, hs, hm', by rw [dGx_all]; exact hp⟩ fun z m1 H1 sc fp a g code ys early Mf s5 I5 hex hfp hR hfin => ?_)
  refine Calls.spliced_nil ?_
  cases early with
  | true => exact hfin.elim
  | false =>
    simp only [Bool.false_eq_true, if_false] at hfin
    unfold finT at hfin
    split at hfin
    · rename_i ds hd
      split at hfin
      · rename_i hl
        refine call_tuple_gx hR hr.hd I5.ok.frames rfl rfl (Nat.le_refl _) (by have := hr.dp; omega) (s1000000 hl) fun s' us m' H' q1 q2 q3 q4 => ?_
        have J := taken I5 hex q2
        obtain ⟨vs, hv, rv⟩ := q2.vals
        have hfr : H' s'.heap.objs.size = none := J.hok.fresh (Nat.le_refl _)
        have hlen : vs.length ≤ sizeLine := by
          rw [Paired.length rv]
          exact s1000000 hl
        have J2 : Inv X pins σ (upd H' s'.heap.objs.size (.tup vs)) { s' with heap := s'.heap.push { cls := .type "tuple", data := .seq us.toArray } } := J.laid (t' := s'.toks) (fun b o e => Heap.get?_push_of_some _ e) (Nat.le_refl _) ⟨hlen, us, hv, ⟨_, Heap.get?_push_size _ rfl, rfl, _, rfl⟩⟩
        refine ⟨.ref s'.heap.objs.size, _, J2, rfl, ?_⟩
        have hq : Post X.K z E m' H' (kE X.K z Q) (.ok (.d (.tuple ds)) Mf) := Post.mono q2.ext hfin
        exact post_tup hq q3 (rds_of_rws hd rv) _ hfr
      · exact hfin.elim
    · exact hfin.elim
theorem q_allG (hc : X.calm = true) (hN : X.N.Nodup) (hgd : X.A.guards = some []) (hr : Room (lv + 1) X.A) (hg : Gl X "all") (hm : X.mg "all" = none) (TB : GxR.TabB X.base X.mg c P) (hcode : X.env.code = .ref c) (hi : QI X E tgE iter ti) (ok : BlkOk X.N X.env.scope scope own) (S : GScp scope) (hb : GBody X lv scope tgE ifs elt tg tt te)
    (hvs : own.map (·.2) = vs) (hsl : ∀ i ∈ tg.slots, i ∈ vs) (hfold : ∀ v, genFold iter X.env v = pure v := by intro _; rfl)
    (he : starEach [.GeneratorExp elt [⟨tgE, iter, ifs, 0⟩] scope gpos] X.env = (false, eval (.GeneratorExp elt [⟨tgE, iter, ifs, 0⟩] scope gpos) X.env) :: starEach [] X.env := by rfl) :
    QE X E (.Call (.Name "all" p) [.GeneratorExp elt [⟨tgE, iter, ifs, 0⟩] scope gpos] [] pos) (dAllG P ti tg tt te vs) := by
  subst hvs
  refine ⟨fun pins s σ H Q I h => ?_⟩
  refine wpAny_Call_Name_kw (ld_blt I hg hm (show bootBuiltins "all" = some (.builtin "all") by decide +kernel) ?_ (by decide) (by decide))
  refine PyProof.Rows.callWith_builtin1 ?_ he (by rfl)
  rw [he]
  show wpAny _ _ (spliced ((false, eval (.GeneratorExp elt [⟨tgE, iter, ifs, 0⟩] scope gpos) X.env) :: backTo pos (starEach [] X.env))) _ _ s
  refine Calls.spliced_cons (gen_eval (stop := isB false) (fin := finQ false) hc hN hgd hr TB hcode hi ok S hb hsl hfold I h fun z m1 H1 sc fp a g code ys early Mf s5 I5 hex hfp hR hfin => ?_)
  refine Calls.spliced_nil ?_
  unfold finQ at hfin
  split at hfin
  · rename_i bs hbs
    split at hfin
    · rename_i hl
      refine call_all_gx hR hr.hd I5.ok.frames rfl rfl (Nat.le_refl _) (by have := hr.dp; omega) hbs hl.1 hl.2 fun s' us m' H' q1 q2 => ?_
      refine ⟨.bl (!early), H', taken I5 hex q1, rfl, ?_⟩
      have hq := Post.now (k := kE X.K z Q) (Post.mono q1.ext hfin) q2 (.bl (early == false)) (.d (.bl _))
      have e : (early == false) = !early := by cases early <;> rfl
      rw [e] at hq
      exact hq
    · exact hfin.elim
  · exact hfin.elim
end
end By
namespace By
open PySem PySem.Spec PyProof.Rows L2
/-- the store at the start: the tables -/
def mem0 (pt : Nat → Addr) (n : Nat) : Mem := (List.range n).map fun i => .tbl (pt i)
/-- the same; q0: the name of the lambdas of such a def -/
def memG (q0 : Option Str) (pt : Nat → Addr) (n : Nat) : Mem := (List.range n).map fun i => match q0 with
  | none => .tbl (pt i)
  | some q => .ltb (pt i) q
theorem sp_lawT {K : PySem.W.Frag} {F : FD} {H : Hp} {a : Addr} {ns : List Int} {pt : Nat → Addr} {n : Nat} {q0 : Option Str} (hS : SqL K H a (ns.map V.int)) (hpt : ∀ i, i < n → H (pt i) = some (.tbl #[])) (hnd : ∀ i j, i < n → j < n → pt i = pt j → i = j) (haT : ∀ i, i < n → pt i ≠ a)
    (h : ∃ M, F [.d (.list (ns.map .int))] (memG q0 pt n) = .ok (.d (.bool true)) M) : spOf K F [.ref a] H (fun v _ => v = .bl true) fun _ _ _ => False := by
  obtain ⟨M, e⟩ := h
  have arg : RW K ((List.range n).map pt) [] H (.ref a) (.d (.list (ns.map .int))) := by
    refine .d (.lst ?_ (rds_ints ns))
    rcases hS with q | q
    · refine .inl ⟨q, fun y => ?_, by simp⟩
      obtain ⟨i, hi, ei⟩ := List.mem_map.mp y
      exact haT i (List.mem_range.mp hi) ei
    · exact .inr (.inr q)
  have nd : ((List.range n).map pt).Nodup := by
    refine List.pairwise_map.mpr ((show (List.range n).Pairwise (· ≠ ·) from List.nodup_range).imp_of_mem ?_)
    exact fun {i j} hi hj ne q => ne (hnd i j (List.mem_range.mp hi) (List.mem_range.mp hj) q)
  refine ⟨(List.range n).map pt, [], _, memG q0 pt n, .cons arg .nil, ⟨by unfold memG; simp, nd, (fun b hb => by cases hb), (fun b _ => by simp), fun i o b h1 h2 => ?_⟩, ?_⟩
  · unfold memG at h1
    rw [List.getElem?_map] at h1 h2
    cases q : (List.range n)[i]? with
    | none => rw [q] at h1; cases h1
    | some j =>
      rw [q] at h1 h2
      cases h1
      cases h2
      cases q0 with
      | none => exact ⟨rfl, #[], hpt j (List.mem_range.mp (List.mem_of_getElem? q)), trivial⟩
      | some q1 => exact ⟨rfl, #[], hpt j (List.mem_range.mp (List.mem_of_getElem? q)), trivial, fun pos cv hc => by
          have z : codeAmong pos [] = some cv := hc
          simp [codeAmong] at z⟩
  · rw [e]
    intro m' H' _ _ v rv
    cases rv with
    | d rv =>
    cases rv
    rfl
section
variable {P : Program} {w : World} {K : PySem.W.Frag} {mg mb : Str → Option Value} {k : Nat} {fa a : Addr} {fd : FuncData} {x : Str} {F : FD} {s : Shared} {vs : List Value} {ns : List Int} {cs : List (Addr × Addr)} {pt : Nat → Addr} {H : Hp} {q0 : Option Str}
/-- what is tracked when the law is called: the script's list, the empty tables -/
structure Start (P : Program) (w : World) (K : PySem.W.Frag) (s : Shared) (H : Hp) (cs : List (Addr × Addr)) : Prop where
  ok : HOk P w H s.heap
  apart : ∀ b, H b ≠ none → K.lookup b = none
  kind : ∀ b o, H b ≠ none → s.heap.get? b = some o → (∃ its n, o.data = .seq its n) ∨ o.data = .fields #[]
  only : ∀ b, H b = none ∨ (∃ ob xs, H b = some (.frz ob xs)) ∨ (∃ p ∈ cs, p.2 = b ∧ H b = some (.tbl #[]))
theorem Start.seen (z : Start P w K s H cs) {b : Addr} {o : Obj} (e : s.heap.get? b = some o) (h1 : ∀ its n, o.data ≠ .seq its n) (h2 : o.data ≠ .fields #[]) : (hidT s.heap H).get? b = some o := by
  refine hidT_get e (Classical.byContradiction fun q => ?_)
  rcases z.kind b o q e with ⟨its, n, r⟩ | r
  · exact h1 its n r
  · exact h2 r
theorem Start.nsp (z : Start P w K s H cs) {b : Addr} {m : Str → Option Value} (N : s.heap.Ns b m) : (hidT s.heap H).Ns b m := by
  obtain ⟨o, es, ep, e, d, r⟩ := N
  exact ⟨o, es, ep, z.seen e (fun _ _ q => by rw [d] at q; cases q) (fun q => by rw [d] at q; cases q), d, r⟩
theorem Start.kin (z : Start P w K s H cs) (KX : K.In s.heap) : K.In (hidT s.heap H) := fun b o e => hidT_get (KX b o e) (Classical.byContradiction fun q => by
  have := z.apart b q
  rw [e] at this
  cases this)
theorem Start.tabs (z : Start P w K s H cs) (hT : ∀ p ∈ cs, s.heap.get? p.2 = some { cls := .none, data := .fields #[] }) (C : ∀ p ∈ cs, PySem.W.CodeHd s.heap p.1 p.2) (hns : s.heap.Ns mainGlobals mg)
    (hbm : ∃ (bm : Addr) (ob : Obj), mg "__builtins__" = some (.ref bm) ∧ bm ≠ builtinsNs ∧ s.heap.get? bm = some ob ∧ ob.cls = .type "module" ∧ ob.dict = some builtinsNs ∧ ob.data = .plain) : ∀ p ∈ cs, GxR.TabB (hidT s.heap H) mg p.1 p.2 := fun p hp => by
  obtain ⟨oc, us, file, tf, flags, tg, inF, text, tt, e1, r1, r2, r3, r4⟩ := C p hp
  obtain ⟨bm, ob, b1, b2, b3, b4, b5, b6⟩ := hbm
  obtain ⟨og, es, ep, g1, g2, _⟩ := hns
  have hTp := hT p hp
  have ne : ∀ {b : Addr} {o : Obj}, s.heap.get? b = some o → o.data ≠ .fields #[] → b ≠ p.2 := fun {b o} e q y => by
    rw [y, hTp] at e
    cases e
    exact q rfl
  refine ⟨⟨oc, us, file, tf, flags, tg, inF, text, tt, z.seen e1 (fun _ _ q => by rw [r2] at q; cases q) (fun q => ?_), r1, r2, r3, r4⟩, ⟨bm, ob, b1, b2, fun q => ?_, ne b3 (fun q => by rw [b6] at q; cases q), z.seen b3 (fun _ _ q => by rw [b6] at q; cases q) (fun q => by rw [b6] at q; cases q), b4, b5, b6⟩, ne g1 fun q => by rw [g2] at q; cases q⟩
  · rw [r2] at q
    cases q
    simp at r3
  · rw [q, g1] at b3
    cases b3
    rw [g2] at b6
    cases b6
theorem Start.old (z : Start P w K s H cs) (hT : ∀ p ∈ cs, s.heap.get? p.2 = some { cls := .none, data := .fields #[] }) (C : ∀ p ∈ cs, PySem.W.CodeHd s.heap p.1 p.2) {H' : Hp} {s' : Shared} (h2 : HOk P w H' s'.heap) (un : Un (frs []) [] H H' s.heap s'.heap) : OldK s.heap s'.heap := by
  have now : ∀ b o, s.heap.get? b = some o → s'.heap.get? b = some o ∨ ∃ p ∈ cs, p.2 = b ∧ ∃ more : Array Value, s'.heap.get? b = some { cls := .none, data := .fields more } := fun b o e => by
    have no : b ∉ ([] : List Addr) := by simp
    rcases z.only b with q | ⟨ob, xs, q⟩ | ⟨p, hp, ep, q⟩
    · exact .inl (un.keep b o e q no no)
    · obtain ⟨e1, _⟩ := z.ok b _ q
      obtain ⟨e2, _⟩ := h2 b _ (un.frzs b ob _ q)
      rw [e] at e1
      cases e1
      exact .inl e2
    · obtain ⟨more, q2⟩ := un.tbls b _ q
      exact .inr ⟨p, hp, ep, _, h2 b _ q2⟩
  refine ⟨fun b o e => ?_, fun b o e => ?_⟩
  · rcases now b o e with q | ⟨p, hp, ep, more, q⟩
    · exact .inl q
    · subst ep
      rw [hT p hp] at e
      cases e
      exact .inr (.inl ⟨((C p hp).tab (hT p hp)).isCodeTable, rfl, #[], more, rfl, by rw [Array.empty_append]; exact q⟩)
  · rcases now b o e with q | ⟨_, _, _, _, q⟩
    · exact ⟨o, q⟩
    · exact ⟨_, q⟩
theorem law_goT (z : Start P w K s H cs) (KX : K.In s.heap) (hns : s.heap.Ns mainGlobals mg) (hb : s.heap.Ns builtinsNs mb) (hbb : ∀ x : Str, x ≠ "__name__" → mb x = bootBuiltins x) (hlim : s.heap.NoLimit) (hg : s.gens = #[]) (hr : Room k callerA)
    (hT : ∀ p ∈ cs, s.heap.get? p.2 = some { cls := .none, data := .fields #[] }) (C : ∀ p ∈ cs, PySem.W.CodeHd s.heap p.1 p.2)
    (hbm : ∃ (bm : Addr) (ob : Obj), mg "__builtins__" = some (.ref bm) ∧ bm ≠ builtinsNs ∧ s.heap.get? bm = some ob ∧ ob.cls = .type "module" ∧ ob.dict = some builtinsNs ∧ ob.data = .plain)
    (F0 : ∀ base : Heap, K.In base → base.Ns mainGlobals mg → (∀ p ∈ cs, GxR.TabB base mg p.1 p.2) → FnG P w K mg base k fa fd [x] (spOf K F)) (hbind : ∀ (s : Shared) (u : Value), BindsTo s fd ⟨[u], []⟩ [(x, u)])
    (hsp : spOf K F [.ref a] H (fun v _ => v = .bl true) fun _ _ _ => False) :
    codeAny (model P w) callerA (.call (.ref fa) ⟨[.ref a], []⟩) (fun r s' => r = .ok (.ret (.bool true)) ∧ OldK s.heap s'.heap ∧ s'.os = s.os ∧ AllBare s'.gens) s := by
  obtain ⟨mc, l1, l2⟩ := hlim
  have M : Mod K mg (hidT s.heap H) := ⟨z.kin KX, z.nsp hns, ⟨mb, z.nsp hb, hbb⟩, ⟨mc, z.nsp l1, l2⟩⟩
  have e0 : Env0 P w K mg (hidT s.heap H) callerA [] s H := ⟨rfl, M, fun b o e => of_hidT e, Nat.le_of_eq (hidT_size _ _), trivial, fun b hb => (by cases hb), z.ok, .of_eq hg⟩
  refine codeAny_mono ((F0 _ (z.kin KX) (z.nsp hns) (z.tabs hT C hns hbm)).does rfl hr e0 (us := [.ref a]) (vs := [.ref a]) (hbind s (.ref a)) (.cons rfl .nil) hsp) ?_
  intro r s' h
  match r, h with
  | .error e, h => exact (cx_none h).elim
  | .ok .next, h => exact h.elim
  | .ok .brk, h => exact h.elim
  | .ok .cont, h => exact h.elim
  | .ok (.ret u), h =>
    obtain ⟨v, H', os, bare, un, hok', rv, q⟩ := h
    cases (show v = .bl true from q)
    cases (show u = .bool true from rv)
    exact ⟨rfl, z.old hT C hok' un, os, bare⟩
theorem law_callT (KX : K.In s.heap) (hns : s.heap.Ns mainGlobals mg) (hb : s.heap.Ns builtinsNs mb) (hbb : ∀ x : Str, x ≠ "__name__" → mb x = bootBuiltins x) (hlim : s.heap.NoLimit) (hg : s.gens = #[]) (hr : Room k callerA)
    (hT : ∀ p ∈ cs, s.heap.get? p.2 = some { cls := .none, data := .fields #[] }) (nT : ∀ p ∈ cs, K.lookup p.2 = none) (C : ∀ p ∈ cs, PySem.W.CodeHd s.heap p.1 p.2)
    (hbm : ∃ (bm : Addr) (ob : Obj), mg "__builtins__" = some (.ref bm) ∧ bm ≠ builtinsNs ∧ s.heap.get? bm = some ob ∧ ob.cls = .type "module" ∧ ob.dict = some builtinsNs ∧ ob.data = .plain)
    (ha : s.heap.get? a = some { cls := .type "list", data := .seq vs.toArray }) (hi : IntsAre vs ns) (hl : ns.length ≤ sizeLine)
    (F0 : ∀ base : Heap, K.In base → base.Ns mainGlobals mg → (∀ p ∈ cs, GxR.TabB base mg p.1 p.2) → FnG P w K mg base k fa fd [x] (spOf K F)) (hbind : ∀ (s : Shared) (u : Value), BindsTo s fd ⟨[u], []⟩ [(x, u)])
    (hpt : ∀ i, i < cs.length → ∃ p, cs[i]? = some p ∧ pt i = p.2) (hnd : (cs.map (·.2)).Nodup) (hF : ∃ M, F [.d (.list (ns.map .int))] (memG q0 pt cs.length) = .ok (.d (.bool true)) M) :
    codeAny (model P w) callerA (.call (.ref fa) ⟨[.ref a], []⟩) (fun r s' => r = .ok (.ret (.bool true)) ∧ OldK s.heap s'.heap ∧ s'.os = s.os ∧ AllBare s'.gens) s := by
  have rv := vals_ints hi
  have lv := hi.length
  let Tb (b : Addr) : Prop := ∃ p ∈ cs, p.2 = b
  have aT : ¬ Tb a := fun ⟨p, hp, e⟩ => by
    have q := hT p hp
    rw [e, ha] at q
    cases q
  have ptT : ∀ i, i < cs.length → Tb (pt i) := fun i hi => by
    obtain ⟨p, e, q⟩ := hpt i hi
    exact ⟨p, List.mem_of_getElem? e, q.symm⟩
  have inj : ∀ i j, i < cs.length → j < cs.length → pt i = pt j → i = j := fun i j hi hj e => by
    obtain ⟨p, e1, q1⟩ := hpt i hi
    obtain ⟨r, e2, q2⟩ := hpt j hj
    have z1 : (cs.map (·.2))[i]? = some (pt i) := by rw [List.getElem?_map, e1, q1]; rfl
    have z2 : (cs.map (·.2))[j]? = some (pt i) := by rw [List.getElem?_map, e2, e, q2]; rfl
    obtain ⟨l1, g1⟩ := List.getElem?_eq_some_iff.mp z1
    obtain ⟨l2, g2⟩ := List.getElem?_eq_some_iff.mp z2
    exact (List.getElem_inj hnd).mp (g1.trans g2.symm)
  have naT : ∀ i, i < cs.length → pt i ≠ a := fun i hi e => aT (e ▸ ptT i hi)
  -- the tables, and whatever else stands at a
  have go : ∀ u : Option HO, (u = none → SqL K (fun b => open Classical in if Tb b then some (.tbl #[]) else none) a (ns.map V.int)) → (∀ o, u = some o → K.lookup a = none ∧ o = .frz { cls := .type "list", data := .seq vs.toArray } (.lst (ns.map V.int))) →
      codeAny (model P w) callerA (.call (.ref fa) ⟨[.ref a], []⟩) (fun r s' => r = .ok (.ret (.bool true)) ∧ OldK s.heap s'.heap ∧ s'.os = s.os ∧ AllBare s'.gens) s := fun u hu1 hu2 => by
    let H : Hp := fun b => open Classical in if Tb b then some (.tbl #[]) else if b = a then u else none
    have hTb : ∀ b, Tb b → H b = some (.tbl #[]) := fun b q => if_pos q
    have hA : H a = u := (if_neg aT).trans (if_pos rfl)
    have hN : ∀ b, ¬ Tb b → b ≠ a → H b = none := fun b q r => (if_neg q).trans (if_neg r)
    have z : Start P w K s H cs := by
      refine ⟨fun b o e => ?_, fun b q => ?_, fun b o q e => ?_, fun b => ?_⟩
      · by_cases t : Tb b
        · rw [hTb b t] at e
          cases e
          obtain ⟨p, hp, ep⟩ := t
          exact ep ▸ hT p hp
        · by_cases r : b = a
          · subst r
            rw [hA] at e
            obtain ⟨_, eo⟩ := hu2 o e
            subst eo
            exact ⟨ha, by rw [List.length_map]; exact hl, vs, _, rv, ha⟩
          · rw [hN b t r] at e
            cases e
      · by_cases t : Tb b
        · obtain ⟨p, hp, ep⟩ := t
          exact ep ▸ nT p hp
        · by_cases r : b = a
          · subst r
            rw [hA] at q
            cases u with
            | none => exact absurd rfl q
            | some o => exact (hu2 o rfl).1
          · exact absurd (hN b t r) q
      · by_cases t : Tb b
        · obtain ⟨p, hp, ep⟩ := t
          have y := hT p hp
          rw [ep, e] at y
          cases y
          exact .inr rfl
        · by_cases r : b = a
          · subst r
            rw [ha] at e
            cases e
            exact .inl ⟨_, _, rfl⟩
          · exact absurd (hN b t r) q
      · by_cases t : Tb b
        · obtain ⟨p, hp, ep⟩ := t
          exact .inr (.inr ⟨p, hp, ep, hTb b ⟨p, hp, ep⟩⟩)
        · by_cases r : b = a
          · subst r
            cases u with
            | none => exact .inl hA
            | some o =>
              obtain ⟨_, eo⟩ := hu2 o rfl
              exact .inr (.inl ⟨_, _, by rw [hA, eo]⟩)
          · exact .inl (hN b t r)
    have hS : SqL K H a (ns.map V.int) := by
      cases u with
      | none =>
        have q := hu1 rfl
        have e : H = (fun b => open Classical in if Tb b then some (.tbl #[]) else none) := by
          funext b
          show (if Tb b then _ else if b = a then none else none) = _
          by_cases t : Tb b
          · rw [if_pos t, if_pos t]
          · rw [if_neg t, if_neg t]
            split <;> rfl
        rw [e]
        exact q
      | some o =>
        obtain ⟨_, eo⟩ := hu2 o rfl
        exact .inl (.inr ⟨_, by rw [hA, eo]⟩)
    exact law_goT z KX hns hb hbb hlim hg hr hT C hbm F0 hbind (sp_lawT hS (fun i hi => hTb _ (ptT i hi)) inj naT hF)
  cases hk : K.lookup a with
  | some o =>
    have e := KX a o hk
    rw [ha] at e
    cases e
    exact go none (fun _ => .inr ⟨_, vs.toArray, _, hk, rfl, rfl, rfl, by rw [List.size_toArray, lv]; exact hl, by simpa using rv⟩) fun o q => by cases q
  | none => exact go (some (.frz { cls := .type "list", data := .seq vs.toArray } (.lst (ns.map V.int)))) (fun q => by cases q) fun o q => by cases q; exact ⟨hk, rfl⟩
end
/-- a def's code object, its table -/
structure TabK (K : PySem.W.Frag) (mg : Str → Option Value) (q : Program) (p : Addr × Addr) : Prop where
  at_ : ∃ (x : Str) (f : Addr) (oc kV : Value) (od : Option Addr) (fd : FuncData) (osl : Array (Option Value)) (qc : Value) (qd : Option Addr) (qv : Array Value) (qs : Array (Option Value)), ((recsOf q).any fun e => e.name == x) = true ∧ mg x = some (.ref f) ∧ K.lookup f = some ⟨oc, od, .func fd, osl⟩ ∧ fd.code = .ref p.1 ∧ K.lookup p.1 = some ⟨qc, qd, .fields qv, qs⟩ ∧ qv[11]? = some (.ref p.2)
  no : K.lookup p.2 = none
end By
namespace By
open PySem PySem.Spec PyProof.Rows L2
section
variable {P : Program} {w : World} {K : PySem.W.Frag} {mg : Str → Option Value} {base : Heap}
theorem FnG.ofC {x qual : Str} {st : Stmt} {f : Addr} {fd : FuncData} {N ps : List Str} {k : Nat} {sp : Sp} (F : Fun K x qual st f fd) (S : FnScope N ps (defScope st))
    (many : ∀ {vs : List V} {H : Hp} {Q : VK} {E : XK}, sp vs H Q E → vs.length = ps.length)
    (body : ∀ (cdv : Value) (A : Around) (outer : List Env) (s : Shared) (H : Hp) (vs : List V) (Q : VK) (E : XK), cdv = fd.code → A.guards = some [] → Room k (A.deeper (envOfC qual (defScope st) s.heap.objs.size f cdv)) → sp vs H Q E →
      ∃ t, PSs (cxOf (L2.CX P w) P w K mg base N qual (defScope st) f cdv A outer s H E) (defBody st) t ∧ t { nx := fun _ H' => Q .non H', rt := Q } (start N vs) H) :
    FnG P w K mg base (k + 1) f fd ps sp := by
  obtain ⟨oc, od, kV, doc, pm, an, cdv, ct, osl, hfd, lk, hcd⟩ := id F.ex
  have hc : fd.code = cdv := by rw [hfd]
  subst hfd
  refine ⟨many, ?_⟩
  intro A outer s H args us vs Q E hgd hr e0 hb r hsp
  obtain ⟨t, ht, hq⟩ := body cdv A outer s H vs Q E hc.symm hgd (hr.deeper _) hsp
  have old : ∀ b o, base.get? b = some o → s.heap.get? b = some o := fun b o q => (e0.bs b o q).1
  have inK := e0.mod.kin.keeps old
  refine codeAny_call_function hr.depth (inK _ _ lk) rfl S.co S.gen rfl (PySem.W.codeRec_of inK hcd) (hb _ _ _ _ (wpAny_newFunctionEnv_cells S.kind (slots_of S _) ?_))
  rintro env rfl s1 x1
  have J := inv_start (CX := L2.CX P w) (E := E) S hr.hd e0 (many hsp) r x1
  refine ⟨(e0.mod.nolimit.keeps old).keeps x1.toInCall.keep, codeAny_func (wpAny_mono (ht.run [] s1 (start N vs) H _ J hq) ?_ fun _ _ h => h)⟩
  intro fl s' h
  cases fl with
  | ret u =>
    obtain ⟨v, σ', H', J', rv, q⟩ := h
    exact ⟨v, H', J'.os, J'.bare, J'.base, J'.hok, rv, q⟩
  | next =>
    obtain ⟨σ', H', J', q⟩ := h
    exact ⟨.non, H', J'.os, J'.bare, J'.base, J'.hok, rfl, q⟩
  | brk => exact h.elim fun _ h => h.elim fun _ h => h.2.elim
  | cont => exact h.elim fun _ h => h.elim fun _ h => h.2.elim
theorem def_okGC {x qual : Str} {st : Stmt} {f : Addr} {fd : FuncData} {N ps : List Str} {k n : Nat} {body : DS} (F : Fun K x qual st f fd) (S : FnScope N ps (defScope st)) (hn : ps.length = n)
    (hb : ∀ (cdv : Value) (A : Around) (outer : List Env) (s : Shared) (H : Hp) (E : XK), cdv = fd.code → A.guards = some [] → Room k (A.deeper (envOfC qual (defScope st) s.heap.objs.size f cdv)) → QSs (cxOf (L2.CX P w) P w K mg base N qual (defScope st) f cdv A outer s H E) E (defBody st) body) :
    FnG P w K mg base (k + 1) f fd ps (spOf K (defD n N.length body)) :=
  .ofC F S (manyD hn) fun cdv A outer s H vs Q E c g hr h => bodyD (X := cxOf (L2.CX P w) P w K mg base N qual (defScope st) f cdv A outer s H E) (hb cdv A outer s H E c g hr) h
theorem FnG.weak {k j : Nat} {f : Addr} {fd : FuncData} {ps : List Str} {sp : Sp} (o : FnG P w K mg base k f fd ps sp) (h : k ≤ j) : FnG P w K mg base j f fd ps sp := ⟨o.many, fun g hr e0 hb r hsp => o.does g (hr.mono h) e0 hb r hsp⟩
end
def keyW : W → Option Key
  | .d (.int i) => some (.inl i)
  | .d (.str x) => some (.inr x)
  | _ => none
def valW (kvs : List (Key × W)) (k : Key) : Option W := match kvs with
  | [] => none
  | (j, w) :: r => if j = k then some w else valW r k
def fDGet : F2 := fun u w M => match u, keyW w with
  | .r i, some k => match M[i]? with
    | some (.dK kvs) => match valW kvs k with
      | some v => .ok v M
      | none => .bot
    | _ => .bot
  | _, _ => .bot
section
variable {X : Cx} {E : XK} {a b : Expr} {ta tb : DE} {pos : Pos}
end
theorem hu_by {k : Nat} {A : Around} (r : Room k A) : A.units + 200 < cLine := by have := r.un; omega
def gscpB (sc : Scope) : Bool := !sc.isCoroutine && sc.names.all (fun y => y.2 != .cell) && sc.names.lookup (".0" : Str) == some NameKind.local
theorem gscp_by {sc : Scope} (h : gscpB sc = true) : GScp sc := by
  unfold gscpB at h
  rw [Bool.and_eq_true, Bool.and_eq_true] at h
  obtain ⟨⟨h1, h2⟩, h3⟩ := h
  refine ⟨by simpa using h1, fun y hy => ?_, by simpa using h3⟩
  have := List.all_eq_true.mp h2 y hy
  simpa using this
end By
namespace By
open PySem PySem.Spec PyProof.Rows L2 PySem.Froz
structure TxS (P : Program) (w : World) (D : SD) (l : List Str) : Prop where
  ok : TxOk P w D l
  ris : Ris D.2.2.place.toList
  led : w.params.followText "set-order" = true ∨ D.2.2.led = true
theorem TxS.fresh (P : Program) (w : World) : TxS P w (#[], 0, .fresh 0 0 (!w.params.followText "set-order")) [] := by
  refine ⟨TxOk.nil rfl, List.Pairwise.nil, ?_⟩
  show w.params.followText "set-order" = true ∨ (!w.params.followText "set-order") = true
  cases h : w.params.followText "set-order" with
  | true => exact .inl rfl
  | false => exact .inr rfl
abbrev TxAt (P : Program) (w : World) (h : Heap) (a : Addr) (l : List Str) : Prop := ∃ D : SD, h.get? a = some (sObj "set" D) ∧ TxS P w D l
section
variable {P : Program} {w : World} {A : Around} {E : Value → Shared → Prop} {s : Shared}
end
section
variable {P : Program} {w : World} {A : Around} {E : Value → Shared → Prop} {s : Shared}
end
section
variable {P : Program} {w : World} {A : Around} {E : Value → Shared → Prop} {s : Shared}
abbrev TxGot (P : Program) (w : World) (s : Shared) (ns : List Str) (t : Shared) : Prop := ∃ (g : Heap) (tk : Nat), t = { s with heap := g, toks := tk } ∧ TxAt P w g s.heap.objs.size ns.reverse ∧ ∀ b o, s.heap.get? b = some o → g.get? b = some o
end
/-- a set of texts that is tracked -/
def TxO (P : Program) (w : World) (a : Addr) (l : List Str) : HO := .ext fun h => TxAt P w h a l
section
variable {X : Cx}
/-- set(a list of unlike texts) -/
def rSetX (P : Program) (w : World) (K : PySem.W.Frag) : List V → Hp → VK → Prop := fun vs H Q => ∃ (a : Addr) (xs : List Str), vs = [V.ref a] ∧ SqL K H a (xs.map V.str) ∧ xs.Nodup ∧ xs.length ≤ 1000 ∧ ∀ q, H q = none → Q (.ref q) (upd H q (TxO P w q xs.reverse))
/-- sorted(of it) -/
def rSortX (P : Program) (w : World) : List V → Hp → VK → Prop := fun vs H Q => ∃ (a : Addr) (l : List Str), vs = [V.ref a] ∧ H a = some (TxO P w a l) ∧ l.Nodup ∧ l.length ≤ 1000 ∧ ∀ (ys : List Str) (p : Addr), ys.Perm l → sortedS ys = true → H p = none → Q (.ref p) (upd H p (.lst (ys.map V.str)))
end
/-- all of them texts -/
def allT : List PyData → Option (List Str)
  | [] => some []
  | .str x :: ds => (allT ds).map (x :: ·)
  | _ :: _ => none
def textsW (M : Mem) (w : W) : Option (List Str) := match rd M w with
  | some (.list ds) => allT ds
  | _ => none
/-- sorted(set(texts)) of unlike texts -/
def fSortSetX : FL := fun ws M => match ws with
  | [w] => match textsW M w with
    | some xs => if xs.Nodup ∧ xs.length ≤ 1000 then .ok (.d (.list ((sortT xs).map .str))) M else .bot
    | none => .bot
  | _ => .bot
section
variable {X : Cx} {E : XK} {a : Expr} {ta : DE} {pos : Pos}
end
end By
namespace By
open PySem PySem.Spec PyProof.Rows L2
section
variable {X : Cx} {E : XK} {a : Expr} {ta : DE} {p p2 pos : Pos}
/-- what isinstance(x, int) says of data -/
def isIntD : W → Option Bool
  | .d (.int _) => some true
  | .d (.bool _) => some true
  | .d .none => some false
  | .d (.str _) => some false
  | _ => none
def fIsInt : F1 := fun w M => match isIntD w with
  | some b => .ok (.d (.bool b)) M
  | none => .bot
end
end By
namespace By
open PySem PySem.Spec PyProof.Rows L2
section
variable {X : Cx} {E : XK} {e a b c : Expr} {ta tb te : DE} {pos : Pos} {K : PySem.W.Frag}
def fCatM : F2 := fun u w M => match rd M u, rd M w with
  | some (.list xs), some (.list ys) => if xs.length + ys.length ≤ 1000000 then .ok (.r M.length) (M ++ [.lst ((xs ++ ys).map .d)]) else .bot
  | _, _ => .bot
end
def fzO (M : Mem) (n : Nat) : Option W → Option W
  | none => none
  | some w => match fzW M n w with
    | .d x => some (.d x)
    | .r i => if i < n then some (.r i) else none
    | .p _ _ => none
def fzR (M : Mem) (n : Nat) (ρ : Rho) : Rho := ρ.map (fzO M n)
open Classical in
/-- what is made in the first part is data in the second one -/
noncomputable def dScope (t u : DS) : DS := fun ρ M => match t ρ M with
  | .ok (.nx ρ1) M1 => if kept M M1 then u (fzR M1 M.length ρ1) (M1.take M.length) else .bot
  | _ => .bot
section
variable {X : Cx} {E : XK} {st1 st2 : Stmt} {sts : List Stmt} {t u v : DS}
end
end By
namespace By
open PySem PySem.Spec PyProof.Rows L2 PySem.Builtin PySem.Builtin.ObjectAttr
abbrev exMro : List Value := [.type "Exception", .type "BaseException", .type "object"]
structure OxC (K : PySem.W.Frag) (C : Addr) : Prop where
  made : ∃ nm q N bs bm sn sub ab col dd k0 k1 k2 k3 k5, K.lookup C = some (excClassObj nm q C N bs bm true sn sub ab col dd k0 k1 k2 k3 k5 "Exception.__new__") ∧ PySem.W.excTail exMro bm = true
  sets : PySem.W.findIn K (.ref C) "__setattr__" = some (some (.builtin "object.__setattr__"))
  sub : PySem.W.subIn K (.ref C) (.type "BaseException") = some true
  subE : PySem.W.subIn K (.ref C) (.type "Exception") = some true
  ty : PySem.W.typeIn K (.ref C) = some (.type "type")
  kp : PySem.W.keepIn K (.ref C) = true
  over : PySem.W.excOver K C exMro = true
theorem taker_none {K : PySem.W.Frag} {C : Addr} {f : Str} (h : PySem.W.findIn K (.ref C) f = some none) : PySem.W.takerIn K C f = some none := by
  unfold PySem.W.takerIn
  rw [h]
  rfl
section
variable {P : Program} {w : World} {A : Around} {R : Result → Shared → Prop} {hp : Heap} {g : Array GenState} {d : Drawn} {t : Nat} {os : OsState}
theorem ox_set_new {K : PySem.W.Frag} {f : Str} {tk : Tok} {v : Value} {x C : Addr} {fv : Array Value} {cd : ClassData} (KX : K.In hp) (at_ : hp.get? x = some { cls := .ref C, data := .fields fv }) (hov : PySem.W.excOver K C exMro = true)
    (hcd : PySem.W.clsIn K C = some cd) (hdic : cd.hasDict = true) (no : PySem.W.findIn K (.ref C) f = some none)
    (fin : ∀ h' tk' dx, (∀ b o, b ≠ x → hp.get? b = some o → h'.get? b = some o) → hp.objs.size ≤ dx → dx ≠ x → h'.get? x = some { cls := .ref C, dict := some dx, data := .fields fv } → h'.Ns1 dx (fun y => if y = f then some v else none) → R (.ok (.ret .none)) ⟨h', g, d, tk', os⟩) :
    codeAny (model P w) A (.call (.builtin "object.__setattr__") ⟨[.ref x, .str f tk, v], []⟩) R ⟨hp, g, d, t, os⟩ := by
  have inst : PySem.W.InstAt hp x { cls := .ref C, data := .fields fv } C none := ⟨at_, rfl, rfl, trivial⟩
  have apart : x ≠ hp.objs.size := Nat.ne_of_lt (Heap.lt_size at_)
  refine PySem.W.osa_openX (s := ⟨hp, g, d, t, os⟩) PySem.F.store_Exception KX inst hov (taker_none no) fun b => ?_
  have look : PySem.W.Looks (model P w) hp (classData C) cd := PySem.W.looks_clsIn KX hcd
  obtain ⟨nm, bs, mro, ns, qn, hd, sn, sb, ab, col, del⟩ := cd
  dsimp only at hdic
  subst hdic
  show wpAny _ _ (storeInOwnDict (.ref x) (.ref C) (.str f tk) f v b) _ _ _
  unfold storeInOwnDict ownDictForStores
  repeat (first | with_reducible refine PySem.HandSPX.store_in_new ?_ ?_ | with_reducible refine wpAny_loadPart_at at_ ?_ | with_reducible refine look.at ?_ | wp_step)
  · exact ⟨_, #[], _, (Heap.get?_update_ne _ _ _ _ apart.symm).trans (Heap.get?_push_at rfl rfl), rfl, fun e he => absurd he (by simp), fun _ => rfl⟩
  · intro h' tk' hn hs
    have at1 : (hp.push { cls := .type "dict", data := .dict #[] }).get? x = some { cls := .ref C, data := .fields fv } := Heap.get?_push_of_some _ at_
    exact fin h' tk' hp.objs.size (fun b o hb ho => (hs.2 b (Nat.ne_of_lt (Heap.lt_size ho))).trans ((Heap.get?_update_ne _ _ _ _ hb).trans (Heap.get?_push_of_some _ ho))) (Nat.le_refl _) apart.symm ((hs.2 x apart).trans (Heap.get?_update_self _ at1 rfl)) hn
theorem ox_set_old {K : PySem.W.Frag} {f : Str} {tk : Tok} {v : Value} {x C dx : Addr} {fv : Array Value} {cd : ClassData} {m0 : Str → Option Value} {nl : List Str} (KX : K.In hp) (at_ : hp.get? x = some { cls := .ref C, dict := some dx, data := .fields fv }) (hns : hp.Ns1 dx m0) (hw : Within m0 nl) (hz : nl.length ≤ 1000)
    (hov : PySem.W.excOver K C exMro = true) (hcd : PySem.W.clsIn K C = some cd) (hdic : cd.hasDict = true) (no : PySem.W.findIn K (.ref C) f = some none)
    (fin : ∀ h' tk', (∀ b o, b ≠ dx → hp.get? b = some o → h'.get? b = some o) → h'.Ns1 dx (fun y => if y = f then some v else m0 y) → R (.ok (.ret .none)) ⟨h', g, d, tk', os⟩) :
    codeAny (model P w) A (.call (.builtin "object.__setattr__") ⟨[.ref x, .str f tk, v], []⟩) R ⟨hp, g, d, t, os⟩ := by
  obtain ⟨oD, esD, epD, hoD, hdD, _⟩ := hns.count hw
  have inst : PySem.W.InstAt hp x { cls := .ref C, dict := some dx, data := .fields fv } C (some oD) := ⟨at_, rfl, rfl, hoD⟩
  refine PySem.W.osa_openX (s := ⟨hp, g, d, t, os⟩) PySem.F.store_Exception KX inst hov (taker_none no) fun b => ?_
  have look : PySem.W.Looks (model P w) hp (classData C) cd := PySem.W.looks_clsIn KX hcd
  obtain ⟨nm, bs, mro, ns, qn, hd, sn, sb, ab, col, del⟩ := cd
  dsimp only at hdic
  subst hdic
  show wpAny _ _ (storeInOwnDict (.ref x) (.ref C) (.str f tk) f v b) _ _ _
  unfold storeInOwnDict ownDictForStores
  repeat (first | with_reducible refine PySem.OEX.store_in_old hns hw hz ?_ | with_reducible refine wpAny_loadPart_at at_ ?_ | with_reducible refine look.at ?_ | wp_step)
  intro h' tk' hn hs
  exact fin h' tk' (fun b o hb ho => (hs.2 b hb).trans ho) hn
end
section
variable {X : Cx} {pins : List (Addr × Obj)} {σ : L2.St} {H : Hp} {s : Shared} {a C dx : Addr} {f : Str} {y : V} {u : Value} {fs : List (Str × V)} {Q : Unit → Shared → Prop} {E : Value → Shared → Prop} {A : Around}
theorem OxC.data {K : PySem.W.Frag} (T : OxC K C) : ∃ cd, PySem.W.clsIn K C = some cd ∧ cd.hasDict = true := by
  obtain ⟨nm, q, N, bs, bm, sn, sub, ab, col, dd, k0, k1, k2, k3, k5, hC, hbm⟩ := T.made
  exact ⟨_, by unfold PySem.W.clsIn; rw [hC], rfl⟩
/-- self.f = y, the first field -/
theorem ox_new (T : OxC X.K C) (I : Inv X pins σ H s) (e : H a = some (exo a C none)) (no : PySem.W.findIn X.K (.ref C) f = some none) (ry : RelV y u)
    (h : ∀ dx s', H dx = none → dx ≠ a → Inv X pins σ (upd (upd H dx (exd dx [(f, y)])) a (exo a C (some dx))) s' → Q () s') : wpAny (model X.prog X.w) A (setAttr (.ref a) f u) Q E s := by
  obtain ⟨cd, hcl, hdic⟩ := T.data
  obtain ⟨t1, ho⟩ := exo_at I.hok e
  obtain ⟨hp, g, d, t, os⟩ := s
  refine PySem.W.set_plain I.kIn (ox := { cls := .ref C, dict := none, data := .fields #[.ref t1, .none, .none, .none, .bool false, .none] }) (od := none) ⟨ho, rfl, rfl, trivial⟩ T.sets ?_
  refine ox_set_new I.kIn ho T.over hcl hdic no fun h' tk' dx k dn dne hx hn => ?_
  have fresh : H dx = none := I.hok.fresh dn
  have old : ∀ {b : Addr} {o : Obj}, hp.get? b = some o → b ≠ dx := fun {b o} q => Nat.ne_of_lt (Nat.lt_of_lt_of_le (Heap.lt_size q) dn)
  have off : ∀ {b : Addr}, H b = none → b ≠ a := fun {b} n z => by
    rw [z, e] at n
    cases n
  have un : Un X.fs [] H (upd (upd H dx (exd dx [(f, y)])) a (exo a C (some dx))) hp h' :=
    ⟨fun b o q n _ _ => k b o (off n) q, fun b o q n _ _ => ⟨o.slots, k b o (off n) q⟩, fun b o q n _ => by rw [upd_ne (off n), upd_ne (old q)]; exact n,
      fun b o q _ => by
        by_cases hb : b = a
        · exact ⟨_, by rw [hb]; exact hx⟩
        · exact ⟨o, k b o hb q⟩,
      fun b xs q => by rw [upd_ne (at_ne e q exo_tup), upd_ne (ne_of_none q fresh)]; exact q, fun b o v q => by rw [upd_ne (at_ne e q exo_frz), upd_ne (ne_of_none q fresh)]; exact q,
      fun b ps q => ⟨#[], by rw [upd_ne (at_ne e q exo_tbl), upd_ne (ne_of_none q fresh), q]; simp⟩⟩
  refine h dx _ fresh dne (I.un (t' := tk') un fun b o q => ?_)
  by_cases hb : b = a
  · subst hb
    rw [upd_same] at q
    cases q
    exact exo_ok hx
  · rw [upd_ne hb] at q
    by_cases hd : b = dx
    · subst hd
      rw [upd_same] at q
      cases q
      exact exd_ok hn (relO_put (fs := []) ry fun g => True.intro)
    · rw [upd_ne hd] at q
      exact (I.hok b o q).stay (fun c v hc z => k c v (hc.elim (fun hc => by rw [hc]; exact hb) fun hc => at_ne e hc exo_own) z)
        (fun c hc => by rw [upd_ne (at_ne e hc exo_own), upd_ne (ne_of_none hc fresh)]; exact hc) fun c xs hc => by rw [upd_ne (at_ne e hc exo_tup), upd_ne (ne_of_none hc fresh)]; exact hc
/-- self.f = y, a further field -/
theorem ox_old (T : OxC X.K C) (I : Inv X pins σ H s) (e : H a = some (exo a C (some dx))) (ed : H dx = some (exd dx fs)) (hl : fs.length ≤ 900) (no : PySem.W.findIn X.K (.ref C) f = some none) (ry : RelV y u)
    (h : ∀ s', Inv X pins σ (upd H dx (exd dx ((f, y) :: fs))) s' → Q () s') : wpAny (model X.prog X.w) A (setAttr (.ref a) f u) Q E s := by
  obtain ⟨cd, hcl, hdic⟩ := T.data
  obtain ⟨t1, ho⟩ := exo_at I.hok e
  obtain ⟨mA, hns, rel⟩ := exd_at I.hok ed
  have hw := within_of rel
  obtain ⟨hp, g, d, t, os⟩ := s
  obtain ⟨oD, _, _, hoD, _, _⟩ := hns.count hw
  refine PySem.W.set_plain I.kIn (ox := { cls := .ref C, dict := some dx, data := .fields #[.ref t1, .none, .none, .none, .bool false, .none] }) (od := some oD) ⟨ho, rfl, rfl, hoD⟩ T.sets ?_
  refine ox_set_old I.kIn ho hns hw (by rw [List.length_map]; omega) T.over hcl hdic no fun h' tk' k hn => ?_
  have hd : ∃ o, h'.get? dx = some o := by
    obtain ⟨o, _, _, e', _⟩ := hn
    exact ⟨o, e'⟩
  exact h _ (I.write (t' := tk') (x := dx) (e := dx) (o := exd dx ((f, y) :: fs)) (by rw [ed]; exact True.intro) (.inl rfl) k hd (exd_ok hn (relO_put ry rel)))
/-- self.f = e -/
def tOx (K : PySem.W.Frag) (f : Str) (to te : TE) : TS := fun D σ H => te σ H fun y H1 => to σ H1 fun x H2 => ∃ a C : Addr, x = .ref a ∧ OxC K C ∧ PySem.W.findIn K (.ref C) f = some none ∧
  ((H2 a = some (exo a C none) ∧ ∀ dx, H2 dx = none → dx ≠ a → D.nx σ (upd (upd H2 dx (exd dx [(f, y)])) a (exo a C (some dx)))) ∨
    ∃ (dx : Addr) (fs : List (Str × V)), H2 a = some (exo a C (some dx)) ∧ H2 dx = some (exd dx fs) ∧ fs.length ≤ 900 ∧ D.nx σ (upd H2 dx (exd dx ((f, y) :: fs))))
theorem ps_ox {o e : Expr} {to te : TE} {p' pos : Pos} (ho : PE X o to) (he : PE X e te) (hs : swapsWith e (some (.Attribute o f p')) pos.line X.env = pure false := by rfl) : PS X (.Assign [.Attribute o f p'] e pos) (tOx X.K f to te) := by
  refine ⟨fun pins s σ H D I h => ?_⟩
  refine plainObj_wpAny_Assign_Attribute (thn (he.run pins s σ H _ I h) fun v s1 ⟨y, H1, I1, r1, q1⟩ => thn (ho.run pins s1 σ H1 _ I1 q1) fun u s2 ⟨x, H2, I2, r2, a, C, ex, T, no, q⟩ => ?_) hs
  subst ex
  obtain rfl : u = Value.ref a := r2
  rcases q with ⟨ea, q⟩ | ⟨dx, fs, ea, ed, hl, q⟩
  · exact ox_new T I2 ea no r1 fun dx s' n ne J => ⟨σ, _, J, q dx n ne⟩
  · exact ox_old T I2 ea ed hl no r1 fun s' J => ⟨σ, _, J, q⟩
end
end By
namespace By
open PySem PySem.Spec PyProof.Rows L2 PySem.Calls
abbrev oxEnv (qual : Str) (sc : Scope) (L f : Addr) (cd : Value) (cc : Addr) : Env := PySem.W.ksEnv qual sc L f cd cc
structure InitSc (N : List Str) (sc : Scope) : Prop where
  kind : sc.kind = .function
  co : sc.isCoroutine = false
  gen : sc.isGenerator = false
  nd : N.Nodup
  loc : ∀ x ∈ N, sc.names.lookup x = some .local
  nocell : ∀ y ∈ sc.names, y.2 ≠ .cell
  free : ∀ y ∈ sc.names, y.2 = .free → y.1 = ("__class__" : Str)
  sup : sc.names.lookup ("super" : Str) = some .globalImplicit
  cls : sc.names.lookup ("__class__" : Str) = some .free
/-- the context of its body -/
def oxCx (P : Program) (w : World) (K : PySem.W.Frag) (mg : Str → Option Value) (base : Heap) (N : List Str) (qual : Str) (sc : Scope) (f : Addr) (cd : Value) (cc : Addr) (A : Around) (outer : List Env) (s : Shared) (H : Hp) (E : XK) : Cx where
  prog := P
  w := w
  K := K
  mg := mg
  base := base
  A := A.deeper (oxEnv qual sc s.heap.objs.size f cd cc)
  N := N
  s_0 := s
  H_0 := H
  env := oxEnv qual sc s.heap.objs.size f cd cc
  outer := outer
  stack := oxEnv qual sc s.heap.objs.size f cd cc :: outer
  ex := []
  calm := true
  fn := fun _ => false
  pn := []
  xe := fun e s' => wpAny (model P w) (A.deeper (oxEnv qual sc s.heap.objs.size f cd cc)) (leaving (oxEnv qual sc s.heap.objs.size f cd cc) e) (fun _ s'' => L2.CX P w outer H s E e s'') (fun e' s'' => L2.CX P w outer H s E e' s'') s'
theorem one_cell {x : Str} {cc c : Addr} (h : ([(("__class__" : Str), cc)] : List (Str × Addr)).lookup x = some c) : x = ("__class__" : Str) ∧ c = cc := by
  by_cases e : x = ("__class__" : Str)
  · subst e
    rw [List.lookup_cons_self] at h
    exact ⟨rfl, (Option.some.inj h).symm⟩
  · rw [List.lookup_cons, show (x == ("__class__" : Str)) = false by simpa using e] at h
    cases h
theorem lookup_nd {l : List (Str × Value)} {x : Str} {u : Value} (nd : (l.map (·.1)).Nodup) (h : (x, u) ∈ l) : l.lookup x = some u := by
  induction l with
  | nil => cases h
  | cons p l ih =>
    obtain ⟨y, z⟩ := p
    rw [List.map_cons, List.nodup_cons] at nd
    by_cases e : x = y
    · subst e
      rcases List.mem_cons.mp h with q | q
      · cases q; exact List.lookup_cons_self
      · exact absurd (List.mem_map.mpr ⟨_, q, rfl⟩) nd.1
    · rw [List.lookup_cons, show (x == y) = false by simpa using e]
      rcases List.mem_cons.mp h with q | q
      · cases q; exact absurd rfl e
      · exact ih nd.2 q
theorem lookup_zip {N : List Str} {us : List Value} {i : Nat} {x : Str} {u : Value} (nd : N.Nodup) (hl : us.length = N.length) (h1 : N[i]? = some x) (h2 : us[i]? = some u) : (N.zip us).reverse.lookup x = some u := by
  refine lookup_nd ?_ ?_
  · rw [List.map_reverse, List.map_fst_zip (by omega)]
    exact (List.reverse_perm N).nodup_iff.mpr nd
  · rw [List.mem_reverse]
    have hz : (N.zip us)[i]? = some (x, u) := by
      rw [List.getElem?_zip_eq_some]
      exact ⟨h1, h2⟩
    exact List.mem_of_getElem? hz
section
variable {P : Program} {w : World} {K : PySem.W.Frag} {mg : Str → Option Value} {base : Heap} {N : List Str} {qual : Str} {sc : Scope} {f cc D : Addr} {cd : Value} {A : Around} {outer : List Env} {s : Shared} {H : Hp} {E : XK} {us : List Value} {vs : List V}
theorem ox_start (S : InitSc N sc) (hd : A.handled = none) (e0 : Env0 P w K mg base A outer s H) (hcc : ∃ oc, K.lookup cc = some oc ∧ oc.data = .cell (some (.ref D))) (hl : vs.length = N.length) (r : Vals vs us) {h1 : Heap} {tk : Nat}
    (hns : h1.Ns s.heap.objs.size fun x => (N.zip us).reverse.lookup x) (kp : ∀ b o, s.heap.get? b = some o → h1.get? b = some o) : Inv (oxCx P w K mg base N qual sc f cd cc A outer s H E) [] (L2.start N vs) H { s with heap := h1, toks := tk } := by
  have noA : ∀ b : Addr, b ∉ (oxCx P w K mg base N qual sc f cd cc A outer s H E).ex := fun b z => absurd (show b ∈ ([] : List Addr) from z) (by simp)
  obtain ⟨oc, hcc, hdt⟩ := hcc
  have bc := e0.bs cc oc (e0.mod.kin cc oc hcc)
  have sf : ∀ {y : Str}, sc.names.lookup y = some .free → y = ("__class__" : Str) := fun {y} h => S.free _ (PySem.mem_of_lookup h) rfl
  refine ⟨⟨e0.mod, S.kind, rfl, rfl, Nat.le_refl _, fun y z c e1 e2 => (one_cell e1).1.trans (one_cell e2).1.symm, fun y hy => ?_, fun y c z _ => ?_, fun _ => hd, Around.frames_deeper e0.frames, .inr ⟨rfl, rfl⟩, fun b z => absurd z (noA b), e0.bs, e0.bsz, fun b _ _ => noA b, fun b z => absurd z (noA b), e0.funs, e0.frf⟩,
    rfl, e0.bare, Un.kept kp, ⟨_, hns, fun i y v e1 e2 e3 => ?_⟩, fun y c e => ?_, e0.hok.fresh (Nat.le_refl _), fun y c e => ?_, fun q hq => absurd (show q ∈ ([] : List (Addr × Obj)) ++ [] from hq) (by simp), e0.hok.kept kp, ?_⟩
  · have hy : sc.names.lookup y = some .cell ∨ sc.names.lookup y = some .free := hy
    rcases hy with hy | hy
    · exact absurd rfl (S.nocell _ (PySem.mem_of_lookup hy))
    · rw [sf hy]
      exact ⟨cc, List.lookup_cons_self⟩
  · have z : false = true := z
    cases z
  · have hi : i < vs.length := by
      rw [hl]
      exact (List.getElem?_eq_some_iff.mp (show N[i]? = some y from e1)).1
    have ha : vs[i]? = some v := by
      unfold L2.start at e2
      rw [List.getElem?_append_left (by simpa using hi), List.getElem?_map] at e2
      cases q : vs[i]? with
      | none => rw [q] at e2; cases e2
      | some a => rw [q] at e2; cases e2; rfl
    obtain ⟨u, hu, rv⟩ := r.get ha
    have hN : N[i]? = some y := e1
    exact ⟨u, rv, .inl ⟨S.loc y (List.mem_of_getElem? hN), lookup_zip S.nd (by rw [← r.length, hl]) hN hu⟩⟩
  · obtain ⟨_, rfl⟩ := one_cell (show ([(("__class__" : Str), cc)] : List (Str × Addr)).lookup y = some c from e)
    exact ⟨_, oc, kp _ _ bc.1, hdt⟩
  · obtain ⟨_, rfl⟩ := one_cell (show ([(("__class__" : Str), cc)] : List (Str × Addr)).lookup y = some c from e)
    exact bc.2
  · unfold L2.start
    show _ = N.length
    rw [List.length_append, List.length_map, List.length_replicate]
    omega
end
/-- a state bears one more pin -/
theorem inv_pin {X : Cx} {σ : L2.St} {H : Hp} {s : Shared} (I : Inv X [] σ H s) {u : Addr} {o : Obj} (h1 : s.heap.get? u = some o) (h2 : H u = none) (h3 : u ≠ X.env.locals) (h4 : u ∉ X.fs) (h5 : ∀ v, o.data ≠ .cell v) : Inv X [(u, o)] σ H s :=
  ⟨I.ok, I.os, I.bare, I.base, I.loc, I.cell, I.free, I.freeC, fun p hp => by
    rcases List.mem_append.mp hp with m | m
    · exact I.pin p (List.mem_append_left _ m)
    · rw [List.mem_singleton.mp m]
      exact ⟨h1, h2, h3, h4, h5⟩, I.hok, I.len⟩
theorem inv_nopin {X : Cx} {pins : List (Addr × Obj)} {σ : L2.St} {H : Hp} {s : Shared} (I : Inv X pins σ H s) : Inv X [] σ H s :=
  ⟨I.ok, I.os, I.bare, I.base, I.loc, I.cell, I.free, I.freeC, fun p hp => I.pin p (by rw [List.append_nil] at hp; exact List.mem_append_left _ hp), I.hok, I.len⟩
/-- what the written part tells of such an __init__ -/
structure OxI (P : Program) (K : PySem.W.Frag) (mg : Str → Option Value) (C f cc cda : Addr) (slf : Str) (fd : FuncData) : Prop where
  fn : ∃ oc od osl, K.lookup f = some ⟨oc, od, .func fd, osl⟩
  first : ∃ ar : Arg, (fd.params.posonlyargs ++ fd.params.args).head? = some ar ∧ ar.arg = slf
  code : ∃ ccl cdd vs ccs file tf, K.lookup cda = some ⟨ccl, cdd, .fields vs, ccs⟩ ∧ vs[2]? = some (.str file tf) ∧ ((P.main.file : Str) == file) = true
  cell : ∃ cl cld csl, K.lookup cc = some ⟨cl, cld, .cell (some (.ref C)), csl⟩
  own : PySem.W.mroIn K C (.ref C) = some true
  mgS : mg "super" = none
  top : (P.main.scope.names.lookup ("super" : Str)).isSome = false
  any : PySem.W.nsIn K cStatics "thirdparty.any" = some none
  next : PySem.W.ks_superIn K C C "__init__" = some (some (.builtin "Exception.__init__"))
section
variable {P : Program} {w : World} {K : PySem.W.Frag} {mg : Str → Option Value} {base : Heap} {N : List Str} {qual self : Str} {sc : Scope} {f cc cda C : Addr} {A : Around} {outer : List Env} {s : Shared} {H : Hp} {E : XK} {fd : FuncData}
/-- super().__init__(arg), arg giving a text -/
theorem ox_super (T : OxC K C) (O : OxI P K mg C f cc cda self fd) (S : InitSc N sc) (hself : N[0]? = some self) {body : List Stmt} {arg : Expr} {te : TE} {p0 p1 p2 p3 p4 : Pos} {s1 : Shared} {σ : L2.St} {H1 : Hp} {e : Addr}
    (ha : PE (oxCx P w K mg base N qual sc f (.ref cda) cc A outer s H E) arg te) (I : Inv (oxCx P w K mg base N qual sc f (.ref cda) cc A outer s H E) [] σ H1 s1) (h0 : σ[0]? = some (some (.ref e))) (he : H1 e = some (exo e C none))
    {Q : Flow → Shared → Prop} (ht : te σ H1 fun x H2 => (∃ y, x = .str y) ∧ H2 = H1) (fin : ∀ s2, Inv (oxCx P w K mg base N qual sc f (.ref cda) cc A outer s H E) [] σ H1 s2 → Q .next s2)
    {pl : Sem Bool} (hev : eval (.Call (.Attribute (.Call (.Name "super" p0) [] [] p1) "__init__" p2) [arg] [] p3) (oxEnv qual sc s.heap.objs.size f (.ref cda) cc) = (do
      let ov ← attributeBase (.Call (.Name "super" p0) [] [] p1) "__init__" (oxEnv qual sc s.heap.objs.size f (.ref cda) cc) (eval (.Call (.Name "super" p0) [] [] p1) (oxEnv qual sc s.heap.objs.size f (.ref cda) cc))
      standAt p2.atName
      let (fx, first) ← holding [ov] (getMethod ov "__init__" pl)
      callWith p3 fx first (backTo p3 (starEach [arg] (oxEnv qual sc s.heap.objs.size f (.ref cda) cc))) []) := by rfl)
    (hsw : swapsWith (.Call (.Attribute (.Call (.Name "super" p0) [] [] p1) "__init__" p2) [arg] [] p3) none p4.line (oxEnv qual sc s.heap.objs.size f (.ref cda) cc) = pure false := by rfl)
    (hstar : starEach [arg] (oxEnv qual sc s.heap.objs.size f (.ref cda) cc) = (false, eval arg (oxEnv qual sc s.heap.objs.size f (.ref cda) cc)) :: starEach [] (oxEnv qual sc s.heap.objs.size f (.ref cda) cc) := by rfl) :
    _root_.PySem.wpAt (model P w) (A.deeper (oxEnv qual sc s.heap.objs.size f (.ref cda) cc)) (.func body (oxEnv qual sc s.heap.objs.size f (.ref cda) cc))
      (exec (.Expr (.Call (.Attribute (.Call (.Name "super" p0) [] [] p1) "__init__" p2) [arg] [] p3) p4) (oxEnv qual sc s.heap.objs.size f (.ref cda) cc)) Q (oxCx P w K mg base N qual sc f (.ref cda) cc A outer s H E).xe s1 := by
  obtain ⟨oc, od, osl, hf⟩ := O.fn
  obtain ⟨ar, har, hs⟩ := O.first
  obtain ⟨ccl, cdd, cvs, ccs, file, tf, hcode, hvs, hfile⟩ := O.code
  obtain ⟨cl, cld, csl, hcell⟩ := O.cell
  obtain ⟨nm, q, Nn, bs, bm, sn, sub, ab, col, dd, k0, k1, k2, k3, k5, hC, hbm⟩ := T.made
  obtain ⟨t1, hoe⟩ := exo_at I.hok he
  have KX : K.In s1.heap := I.kIn
  have hC1 := KX _ _ hC
  have hka : sc.names.lookup ar.arg = some .local := by rw [hs]; exact S.loc _ (List.mem_of_getElem? hself)
  obtain ⟨m, hn, hl⟩ := I.loc
  obtain ⟨u0, ru, lk⟩ := hl 0 self (.ref e) hself h0 (.inl (S.loc _ (List.mem_of_getElem? hself)))
  obtain rfl : u0 = Value.ref e := ru
  have hv : m ar.arg = some (.ref e) := by
    rw [hs]
    rcases lk with ⟨_, z⟩ | ⟨z, _⟩
    · exact z
    · have z' : sc.names.lookup self = some .cell ∨ sc.names.lookup self = some .free := z
      rw [hs] at hka
      rw [hka] at z'
      rcases z' with z' | z' <;> cases z'
  obtain ⟨mb, b1, b2⟩ := I.mod.blt
  have gl : s1.heap.Ns mainGlobals mg := I.mod.glob.keeps I.bk
  have bl : s1.heap.Ns builtinsNs mb := b1.keeps I.bk
  have inst : PySem.W.InstAt s1.heap e { cls := .ref C, data := .fields #[.ref t1, .none, .none, .none, .bool false, .none] } C none := ⟨hoe, rfl, rfl, trivial⟩
  refine PySem.ks_wpAt_Expr_any (PySem.ks_wpAt_MethodCall ?_ hev) (hi := by unfold interactive; simp [oxEnv, PySem.W.ksEnv, PySem.W.envX, S.kind]) (hs := hsw)
  refine PySem.ks_wpAt_super_base S.sup S.cls (by decide) rfl (KX _ _ hf) rfl har rfl (KX _ _ hcode) rfl hvs hfile O.top ?_
  refine PySem.W.ks_loadName_global S.kind S.sup (loadGlobal_builtin (env := oxEnv qual sc s.heap.objs.size f (.ref cda) cc) gl O.mgS bl ((b2 _ (by decide +kernel)).trans (show bootBuiltins "super" = some (.type "super") by first | boot_by_name | rfl | decide +kernel)) ⟨rfl, ?_⟩)
  refine wpAny_loadName_free S.kind S.cls rfl ⟨_, KX _ _ hcell, rfl⟩ ?_
  refine wpAny_loadName_local S.kind hka hn hv ?_
  obtain ⟨hp, g, d, tk, os⟩ := s1
  refine PySem.ks_wpAny_isType_cls hC1 rfl ⟨rfl, ?_⟩
  refine PySem.ks_wpAny_call_super hC1 rfl hoe rfl (fun c z => by cases z) (PySem.W.looks_mroIn KX O.own) fun h2 e2 k2' => ?_
  have I2 := I.kept (h' := h2) (t' := tk) k2'
  have KX2 : K.In h2 := I2.kIn
  have hoe2 := k2' _ _ hoe
  cases hcd : PySem.W.clsIn K C with
  | none => have nx := O.next; unfold PySem.W.ks_superIn at nx; rw [hcd] at nx; cases nx
  | some cdv =>
    have nx := O.next
    unfold PySem.W.ks_superIn at nx
    rw [hcd] at nx
    refine PySem.W.kxs_getMethod PySem.W.kxs_Exception e2 (PySem.W.looks_opaque KX2 O.any) (l₀ := cdv.mro) (fun A Q E s k q => wpAny_bind ((PySem.W.looks_clsIn KX2 hcd) A _ E s k (wpAny_pure q))) rfl KX2 nx ((PySem.W.InstAt.type (⟨hoe2, rfl, rfl, trivial⟩ : PySem.W.InstAt h2 e { cls := .ref C, data := .fields #[.ref t1, .none, .none, .none, .bool false, .none] } C none)).andThen (PySem.W.looks_subIn KX2 T.subE)) (PySem.W.ks_ne KX inst hcd) (by decide) ?_
    have k3' : ∀ b o, h2.get? b = some o → (h2.push (PySem.W.kxs_mw "Exception.__init__" e)).get? b = some o := fun b o z => Heap.get?_push_of_some _ z
    have I3 := I2.kept (h' := h2.push (PySem.W.kxs_mw "Exception.__init__" e)) (t' := tk + 1) k3'
    have hu : (h2.push (PySem.W.kxs_mw "Exception.__init__" e)).get? h2.objs.size = some (PySem.W.kxs_mw "Exception.__init__" e) := Heap.get?_push_at rfl rfl
    have hfu : H1 h2.objs.size = none := I2.hok.fresh (Nat.le_refl _)
    have I4 := inv_pin (u := h2.objs.size) (o := PySem.W.kxs_mw "Exception.__init__" e) I3 hu hfu (fun z => by
      have h1 := I2.lt
      rw [← z] at h1
      exact Nat.lt_irrefl _ h1) (I2.nofs (Nat.le_refl _)) (fun v z => by cases z)
    refine PySem.W.kxs_callWith (i := "Exception.__init__") (x := e) (by rw [hstar]; rfl) ?_
    rw [hstar]
    refine evalArgs_plain (spliced_cons (thn (ha.run _ _ σ H1 _ I4 ht) fun ux s5 ⟨x, H5, I5, r5, ⟨y, ey⟩, eH⟩ => spliced_nil ⟨?_, ?_⟩))
    · subst eH
      exact (I5.pin (h2.objs.size, PySem.W.kxs_mw "Exception.__init__" e) (by simp)).1
    · subst eH
      have hu5 := (I5.pin (h2.objs.size, PySem.W.kxs_mw "Exception.__init__" e) (by simp)).1
      obtain ⟨t5, hoe5⟩ := exo_at I5.hok he
      have hC5 := I5.kIn _ _ hC
      obtain ⟨h5, g5, d5, tk5, os5⟩ := s5
      refine PySem.ESX.call_bw hC5 hoe5 hu5 (by show 1 ≤ sizeLine; rw [sizeLine_eq]; omega) fun h6 t6 k6 hx6 => fin _ ?_
      have J := (inv_nopin I5).write (t' := tk5) (x := e) (e := e) (o := exo e C none) (by rw [he]; exact True.intro) (.inl rfl) k6 ⟨_, hx6⟩ (exo_ok hx6)
      have eu : upd H5 e (exo e C none) = H5 := by
        funext b
        by_cases hb : b = e
        · rw [hb, upd_same, he]
        · rw [upd_ne hb]
      rw [eu] at J
      exact J
end
end By
namespace By
open PySem PySem.Spec PyProof.Rows L2 PySem.Calls
section
variable {P : Program} {w : World} {K : PySem.W.Frag} {mg : Str → Option Value} {base : Heap} {N : List Str} {name qual self : Str} {params : Arguments} {body : List Stmt} {dV kV doc pm ct : Value} {an : Option Addr} {sc : Scope} {f cc cda C : Addr} {A : Around} {outer : List Env} {s : Shared} {H : Hp} {E : XK}
/-- its __init__ runs -/
theorem ox_run {k : Nat} (T : OxC K C) (O : OxI P K mg C f cc cda self (PySem.W.ksFn name qual params body sc dV kV doc pm an (.ref cda) ct cc)) (S : InitSc N sc) (hself : N[0]? = some self) {arg : Expr} {te : TE} {tr : TS} {p0 p1 p2 p3 p4 : Pos} {rest : List Stmt} {e : Addr} {us : List Value} {vs : List V} {Q : VK}
    (hbody : body = .Expr (.Call (.Attribute (.Call (.Name "super" p0) [] [] p1) "__init__" p2) [arg] [] p3) p4 :: rest) (hcd : PySem.W.codeIn K (.ref cda) qual = true) (hr : Room (k + 1) A) (e0 : Env0 P w K mg base A outer s H)
    (hb : BindsTo s (PySem.W.ksFn name qual params body sc dV kV doc pm an (.ref cda) ct cc) ⟨.ref e :: us, []⟩ (N.zip (.ref e :: us))) (r : Vals vs us) (hl : vs.length + 1 = N.length) (he : H e = some (exo e C none))
    (ha : PE (oxCx P w K mg base N qual sc f (.ref cda) cc A outer s H E) arg te) (hrest : PSs (oxCx P w K mg base N qual sc f (.ref cda) cc A outer s H E) rest tr)
    (ht : te (L2.start N (.ref e :: vs)) H fun x H2 => (∃ y, x = .str y) ∧ H2 = H) (hq : tr { nx := fun _ H' => Q .non H', rt := Q } (L2.start N (.ref e :: vs)) H)
    {pl : Sem Bool} (hev : eval (.Call (.Attribute (.Call (.Name "super" p0) [] [] p1) "__init__" p2) [arg] [] p3) (oxEnv qual sc s.heap.objs.size f (.ref cda) cc) = (do
      let ov ← attributeBase (.Call (.Name "super" p0) [] [] p1) "__init__" (oxEnv qual sc s.heap.objs.size f (.ref cda) cc) (eval (.Call (.Name "super" p0) [] [] p1) (oxEnv qual sc s.heap.objs.size f (.ref cda) cc))
      standAt p2.atName
      let (fx, first) ← holding [ov] (getMethod ov "__init__" pl)
      callWith p3 fx first (backTo p3 (starEach [arg] (oxEnv qual sc s.heap.objs.size f (.ref cda) cc))) []) := by rfl)
    (hsw : swapsWith (.Call (.Attribute (.Call (.Name "super" p0) [] [] p1) "__init__" p2) [arg] [] p3) none p4.line (oxEnv qual sc s.heap.objs.size f (.ref cda) cc) = pure false := by rfl)
    (hstar : starEach [arg] (oxEnv qual sc s.heap.objs.size f (.ref cda) cc) = (false, eval arg (oxEnv qual sc s.heap.objs.size f (.ref cda) cc)) :: starEach [] (oxEnv qual sc s.heap.objs.size f (.ref cda) cc) := by rfl) :
    codeAny (model P w) A (.call (.ref f) ⟨.ref e :: us, []⟩) (CR (L2.CX P w) outer P w H s Q E) s := by
  obtain ⟨oc, od, osl, lk⟩ := O.fn
  have old : ∀ b o, base.get? b = some o → s.heap.get? b = some o := fun b o q => (e0.bs b o q).1
  have inK := e0.mod.kin.keeps old
  have cellO : ∃ oc, K.lookup cc = some oc ∧ oc.data = .cell (some (.ref C)) := by
    obtain ⟨cl, cld, csl, hc⟩ := O.cell
    exact ⟨_, hc, rfl⟩
  have rr : Vals (V.ref e :: vs) (Value.ref e :: us) := .cons rfl r
  subst hbody
  refine PySem.ks_codeAny_call_defAt hr.depth (inK _ _ lk) rfl (e0.mod.nolimit.keeps old) (PySem.W.codeRec_of inK hcd) rfl hb S.nocell (fun y hy => S.loc _ (List.of_mem_zip hy).1) (fun h0 hns kp => ?_) S.co S.gen S.kind
  have I : Inv (oxCx P w K mg base N qual sc f (.ref cda) cc A outer s H E) [] (L2.start N (.ref e :: vs)) H { s with heap := h0, toks := s.toks + (N.zip (Value.ref e :: us)).length } := ox_start (D := C) S hr.hd e0 cellO (by rw [List.length_cons, hl]) rr hns kp
  have i0 : (L2.start N (V.ref e :: vs))[0]? = some (some (V.ref e)) := rfl
  refine PySem.ks_wpAt_mono (PySem.ks_wpAt_execs_cons (ox_super T O S hself ha I i0 he ht (fun s2 I2 => ?_) hev hsw hstar)) (fun fl s' h => h) fun e s' h => h
  refine wpAt_of_wpAny (wpAny_mono (hrest.run [] s2 _ H _ I2 hq) (fun fl s' hs => ?_) fun e s' hs => hs)
  cases fl with
  | ret u =>
    obtain ⟨v, σ', H', J, rv, q⟩ := hs
    exact ⟨v, H', J.os, J.bare, J.base, J.hok, rv, q⟩
  | next =>
    obtain ⟨σ', H', J, q⟩ := hs
    exact ⟨.non, H', J.os, J.bare, J.base, J.hok, rfl, q⟩
  | brk =>
    obtain ⟨_, _, _, q⟩ := hs
    exact q.elim
  | cont =>
    obtain ⟨_, _, _, q⟩ := hs
    exact q.elim
end
theorem gd_make {A : Around} {C : Addr} {us : List Value} {kw : List (Str × Value)} (h : A.guards = some []) : (A.under (.builtin "type.__call__" ⟨.ref C :: us, kw⟩)).guards = some [] := by
  first
    | exact h
    | simpa [Around.under, Code.envs, Code.isFrame, Code.isGuard, guardIds, pushEnvs] using h
/-- C(e, ..): what the arguments must be, and the exception's own dict behind it -/
def tMkX (C : Addr) (n : Nat) (txt : List V → Hp → Prop) (flds : List V → List (Str × V)) (ta : TA) : L2.St → Hp → XK → Prop := fun σ H Q => ta σ H fun vs H1 => vs.length = n ∧ txt vs H1 ∧ ∀ d, H1 d = none → Q (.ref C) (some d) (upd H1 d (.xd (flds vs)))
section
variable {X : Cx} {e : Expr} {es : List Expr} {ta : TA} {x : Str} {C fI : Addr} {p pos : Pos} {n : Nat} {txt : List V → Hp → Prop} {flds : List V → List (Str × V)}
theorem pmk_ox {k : Nat} (T : OxC X.K C) (iC : PySem.W.findIn X.K (.ref C) "__init__" = some (some (.ref fI))) (tI : PySem.W.typeIn X.K (.ref fI) = some (.type "function")) (hr : Room (k + 1) X.A) (hg : Gl X x) (hm : X.mg x = some (.ref C)) (ha : PA X (e :: es) ta)
    (run : ∀ (A : Around) (s : Shared) (H : Hp) (Q : VK) (a : Addr) (us : List Value) (vs : List V), (X.A.guards = some [] → A.guards = some []) → Room k A → Env0 X.prog X.w X.K X.mg X.base A X.stack s H → Vals vs us → vs.length = n → H a = some (exo a C none) → txt vs H →
      (∀ d, H d = none → d ≠ a → ∀ H', H' a = some (exo a C (some d)) → H' d = some (exd d (flds vs)) → (∀ b, b ≠ a → b ≠ d → H' b = H b) → Q .non H') → codeAny (model X.prog X.w) A (.call (.ref fI) ⟨.ref a :: us, []⟩) (CR (L2.CX X.prog X.w) X.stack X.prog X.w H s Q (fun _ _ _ => False)) s)
    (htxt : ∀ vs H a, H a = none → txt vs H → txt vs (upd H a (exo a C none)))
    (hdb : (x == ("__debug__" : Str)) = false := by decide) (he : starEach (e :: es) X.env = (false, eval e X.env) :: starEach es X.env := by rfl) (hpl : (backTo pos (starEach es X.env)).any (·.1) = false := by rfl) (hn : n ≤ 1000 := by decide) :
    PMk X (.Call (.Name x p) (e :: es) [] pos) (tMkX C n txt flds ta) := by
  intro pins s σ H Q I h
  obtain ⟨nm, q, Nn, bs, bm, sn, sub, ab, col, dd, k0, k1, k2, k3, k5, hC, hbm⟩ := T.made
  refine wpAny_Call_Name_kw (ld_glob I hg hm ?_ hdb)
  refine PySem.W.callWith_K (h₀ := X.base) I.ok.mod.kin T.kp (thn (ha.run pos pins s σ H _ I h) fun us s1 ⟨vs, H1, I1, r1, hz, ht1, q1⟩ => ⟨I1.kIn, ?_⟩) he hpl
  show wpAny _ _ (call (.ref C) us) _ _ _
  obtain ⟨hp, g, dr, tk, os⟩ := s1
  have big : hp.objs.size ≤ hp.objs.size + 1 := Nat.le_succ _
  have none1 : H1 (hp.objs.size + 1) = none := I1.hok.fresh big
  have keep : ∀ b o, hp.get? b = some o → ((hp.push (PySem.W.kdv_tup us)).push (PySem.HandSPX.excO C hp.objs.size)).get? b = some o := fun b o z => Heap.get?_push_of_some _ (Heap.get?_push_of_some _ z)
  have got : ((hp.push (PySem.W.kdv_tup us)).push (PySem.HandSPX.excO C hp.objs.size)).get? (hp.objs.size + 1) = some (PySem.HandSPX.excO C hp.objs.size) := by heap_get
  have I2 : Inv X pins σ (upd H1 (hp.objs.size + 1) (exo (hp.objs.size + 1) C none)) ⟨(hp.push (PySem.W.kdv_tup us)).push (PySem.HandSPX.excO C hp.objs.size), g, dr, tk, os⟩ :=
    I1.laid (t' := tk) (a := hp.objs.size + 1) (o := exo (hp.objs.size + 1) C none) (h' := (hp.push (PySem.W.kdv_tup us)).push (PySem.HandSPX.excO C hp.objs.size)) keep big (exo_ok got)
  have few : us.length ≤ sizeLine := by
    rw [← Paired.length r1, sizeLine_eq]
    omega
  refine wpAny_call (PySem.HandSPX.call_own F.excBase_Exception (fun Y => PySem.W.excTail_contains Y bm hbm) (I1.kIn _ _ hC) (PySem.W.looks_findIn I1.kIn iC) (fun self => PySem.W.bind_fn I1.kIn self tI) few
    (codeAny_mono (run _ _ _ (fun v H2 => v = .non ∧ ∃ (d : Addr), H2 (hp.objs.size + 1) = some (exo (hp.objs.size + 1) C (some d)) ∧ H2 d = some (exd d (flds vs)) ∧ H1 d = none ∧ d ≠ hp.objs.size + 1 ∧ Q (.ref C) (some d) (upd (del H2 (hp.objs.size + 1)) d (.xd (flds vs)))) (hp.objs.size + 1) us vs (fun hgd => gd_make hgd) (hr.make C us []) (I2.env0.make C us []) r1 hz upd_same (htxt _ _ _ none1 ht1) fun d hd da H' h1 h2 h3 => ⟨rfl, d, h1, h2, by rw [upd_ne da] at hd; exact hd, da, ?_⟩) fun r s' hq' => ?_))
  · rw [upd_ne da] at hd
    have eH : upd (del H' (hp.objs.size + 1)) d (.xd (flds vs)) = upd H1 d (.xd (flds vs)) := by
      funext b
      by_cases hb : b = d
      · rw [hb, upd_same, upd_same]
      · rw [upd_ne hb, upd_ne hb]
        by_cases ha' : b = hp.objs.size + 1
        · rw [ha', del_same, none1]
        · rw [del_ne ha', h3 b ha' hb, upd_ne ha']
    rw [eH]
    exact q1 d hd
  cases r with
  | error er => exact absurd (show False by obtain ⟨_, _, _, _, _, _, _, _, _, _, _, _, z⟩ := (show L2.CX X.prog X.w X.stack _ _ (fun _ _ _ => False) er s' from hq'); exact z) id
  | ok fl =>
    cases fl with
    | ret u =>
      obtain ⟨v, H2, os2, bare2, un2, hok2, rv, ev, d, ea, ed, hd1, da, q2⟩ := hq'
      subst ev
      obtain ⟨h2, g2, d2, t2, os'⟩ := s'
      exact ⟨rv, mk_end (raises_own T.sub T.ty) I1 big keep un2 hok2 os2 bare2 ea ed hd1 q2⟩
    | next => exact False.elim hq'
    | brk => exact False.elim hq'
    | cont => exact False.elim hq'
end
end By
namespace By
open PySem PySem.Spec PyProof.Rows L2 PySem.Calls
/-- what may be shown in an f-string -/
def okRp (d : PyData) : Bool := match d with
  | .int i => decide (i.natAbs.log2 < 1920)
  | .str x => decide (x.length ≤ 1000)
  | d => isDisplay d && d.showable && !d.hasDict && decide (d.depth ≤ 150) && decide (d.shown.length ≤ 10000)
def okRr (d : PyData) : Bool := match d with
  | .int i => decide (i.natAbs.log2 < 1920)
  | .str _ => false
  | d => okRp d
section
variable {X : Cx} {e : Expr} {te : TE} {pos : Pos}
theorem text_small {i : Int} (h : i.natAbs.log2 < 1920) : (Str.ofString (toString i)).length ≤ 10000 := by
  rw [PySem.ofString_length]
  have := PySem.int_text_length_le (k := 1920) (by decide) h
  omega
/-- {x!r} of an int, a tuple, a list -/
def tFmtRd (K : PySem.W.Frag) (te : TE) : TE := fun σ H Q => te σ H fun x H1 => ∃ d, Dp K H1 x d ∧ okRr d = true ∧ ∀ y : Str, y.length ≤ 10000 → Q (.str y) H1
/-- {x} of an int, a text -/
def tFmtD (te : TE) : TE := fun σ H Q => te σ H fun x H1 => ((∃ i : Int, x = .int i ∧ i.natAbs.log2 < 1920) ∨ ∃ y : Str, x = .str y ∧ y.length ≤ 1000) ∧ ∀ y : Str, y.length ≤ 10000 → Q (.str y) H1
theorem pe_fmtD (he : PE X e te) : PE X (.FormattedValue e (-1) none pos) (tFmtD te) := by
  refine ⟨fun pins s σ H Q I h => ?_⟩
  refine wpAny_FormattedValue_plain (thn (he.run pins s σ H _ I h) fun u s1 hv => ?_)
  obtain ⟨x, H1, I1, r1, hx, q⟩ := hv
  rcases hx with ⟨i, rfl, hz⟩ | ⟨y, rfl, hz⟩
  · obtain ⟨t, rfl⟩ := r1
    exact wpAny_formatField_int hz ⟨.str (toString i), H1, I1.tok _, ⟨_, rfl⟩, q _ (text_small hz)⟩
  · obtain ⟨t, rfl⟩ := r1
    exact wpAny_formatField_str ⟨.str y, H1, I1, ⟨t, rfl⟩, q _ (by omega)⟩ ⟨.str y, H1, I1.tok _, ⟨_, rfl⟩, q _ (by omega)⟩ (Nat.le_trans hz (by decide))
end
mutual
theorem dp_keep {K : PySem.W.Frag} {H H' : Hp} (k : ∀ a o, H a = some o → H' a = some o) : ∀ (d : PyData) (v : V), Dp K H v d → Dp K H' v d
  | .none, _, .non => .non
  | .bool _, _, .bl b => .bl b
  | .int _, _, .int i => .int i
  | .str _, _, .str x => .str x
  | .list ds, _, .lst h hs => .lst (h.elim (fun q => .inl (rd_kp (k _) q)) .inr) (dps_keep k ds _ hs)
  | .tuple ds, _, .tup h hs => .tup (h.elim (fun q => .inl (rd_kp (k _) q)) .inr) (dps_keep k ds _ hs)
theorem dps_keep {K : PySem.W.Frag} {H H' : Hp} (k : ∀ a o, H a = some o → H' a = some o) : ∀ (ds : List PyData) (vs : List V), DpAll K H vs ds → DpAll K H' vs ds
  | [], _, .nil => .nil
  | d :: ds, _, .cons h hs => .cons (dp_keep k d _ h) (dps_keep k ds _ hs)
end
section
variable {X : Cx} {e : Expr} {es : List Expr} {ta : TA} {x : Str} {C fI cc cda : Addr} {p pos : Pos} {name qual self v1 v2 f1 f2 : Str} {params : Arguments} {body : List Stmt} {dV kV doc pm ct : Value} {an : Option Addr} {sc : Scope}
theorem ox_vis {sc : Scope} {N : List Str} (S : InitSc N sc) {i : Nat} {y : Str} (h : N[i]? = some y) : Vis sc y := .inl (S.loc y (List.mem_of_getElem? h))
end
end By
namespace By
open PySem PySem.Spec PyProof.Rows L2
def getF (C : Addr) (M : Mem) (f : Str) : W → Option W
  | .r i => match M[i]? with
    | some (.ins D fs) => if D = C then fs.lookup f else none
    | _ => none
  | _ => none
def dFld (C : Addr) (f : Str) (te : DE) : DE := fun ρ M => (te ρ M).bind fun u M1 => match getF C M1 f u with
  | some w => .ok w M1
  | none => .bot
def putFW (f : Str) (w : W) : List (Str × W) → List (Str × W)
  | [] => [(f, w)]
  | (g, x) :: r => if g = f then (g, w) :: r else (g, x) :: putFW f w r
def fSetF (C : Addr) (f : Str) (M : Mem) (u w : W) : Option Mem := match u with
  | .r i => match M[i]? with
    | some (.ins D fs) => if D = C ∧ fs.length < 1000 then some (M.set i (.ins C (putFW f w fs))) else none
    | _ => none
  | _ => none
/-- o.f = e -/
def dSetF (C : Addr) (f : Str) (te to : DE) : DS := fun ρ M => (te ρ M).bind fun w M1 => (to ρ M1).bind fun u M2 => match fSetF C f M2 u w with
  | some M3 => .ok (.nx ρ) M3
  | none => .bot
abbrev FW (K : PySem.W.Frag) (m z : List Addr) (H : Hp) : (Str × V) → (Str × W) → Prop := fun p q => p.1 = q.1 ∧ RW K m z H p.2 q.2
section
variable {K : PySem.W.Frag} {m z : List Addr} {H : Hp}
theorem fw_look {f : Str} {w : W} : ∀ {gs : List (Str × V)} {fs : List (Str × W)}, Paired (FW K m z H) gs fs → fs.lookup f = some w → ∃ v, gs.lookup f = some v ∧ RW K m z H v w
  | _, _, .nil, h => by cases h
  | (g, v) :: gs, (g', x) :: fs, .cons ⟨e, r⟩ hs, h => by
    have e' : g = g' := e
    subst e'
    by_cases q : f = g
    · subst q
      rw [List.lookup_cons_self] at h ⊢
      cases h
      exact ⟨v, rfl, r⟩
    · have n : (f == g) = false := by simpa using q
      rw [List.lookup_cons, n] at h ⊢
      exact fw_look hs h
theorem fw_none {f : Str} : ∀ {gs : List (Str × V)} {fs : List (Str × W)}, Paired (FW K m z H) gs fs → fs.lookup f = none → gs.lookup f = none
  | _, _, .nil, _ => rfl
  | (g, v) :: gs, (g', x) :: fs, .cons ⟨e, r⟩ hs, h => by
    have e' : g = g' := e
    subst e'
    by_cases q : f = g
    · subst q
      rw [List.lookup_cons_self] at h
      cases h
    · have n : (f == g) = false := by simpa using q
      rw [List.lookup_cons, n] at h ⊢
      exact fw_none hs h
theorem fw_put {f : Str} {v : V} {w : W} (r : RW K m z H v w) : ∀ {gs : List (Str × V)} {fs : List (Str × W)}, Paired (FW K m z H) gs fs → Paired (FW K m z H) (putF f v gs) (putFW f w fs)
  | _, _, .nil => .cons ⟨rfl, r⟩ .nil
  | (g, x) :: gs, (g', y) :: fs, .cons ⟨e, s⟩ hs => by
    have e' : g = g' := e
    subst e'
    show Paired _ (if g = f then (g, v) :: gs else (g, x) :: putF f v gs) (if g = f then (g, w) :: fs else (g, y) :: putFW f w fs)
    by_cases q : g = f
    · rw [if_pos q, if_pos q]
      exact .cons ⟨rfl, r⟩ hs
    · rw [if_neg q, if_neg q]
      exact .cons ⟨rfl, s⟩ (fw_put r hs)
theorem ins_at {M : Mem} {C : Addr} {v : V} {i : Nat} {fs : List (Str × W)} (hm : RM K m z H M) (rv : RW K m z H v (.r i)) (e : M[i]? = some (.ins C fs)) : ∃ a dx gs, v = .ref a ∧ m[i]? = some a ∧ H a = some (.ins C dx gs) ∧ Paired (FW K m z H) gs fs := by
  cases rv with
  | r ha =>
    rename_i a
    obtain ⟨dx, gs, h1, h2⟩ := hm.ob i _ a e ha
    exact ⟨a, dx, gs, rfl, ha, h1, h2⟩
end
section
variable {X : Cx} {E : XK} {C : Addr} {f : Str} {e o : Expr} {es : List Expr} {te to : DE} {t : DA} {pos pos' : Pos}
theorem q_fld (c : Cls X.K C) (n : NoAttr X.K C f) (he : QE X E e te) (hb : attributeBase e f X.env (eval e X.env) = eval e X.env := by rfl) : QE X E (.Attribute e f pos) (dFld C f te) :=
  PE.imp (pe_fld he hb) fun σ H Q ⟨m, z, ρ, M, hs, hm, hp⟩ => ⟨m, z, ρ, M, hs, hm, (Post.unbind hp).imp fun u M1 m1 H1 _ e1 hm1 hp1 v rv => by
    cases hg : getF C M1 f u with
    | none =>
      rw [hg] at hp1
      exact hp1.elim
    | some w =>
      rw [hg] at hp1
      unfold getF at hg
      split at hg
      · rename_i i
        split at hg
        · rename_i D fs hM
          split at hg
          · rename_i hD
            subst hD
            obtain ⟨a, dx, gs, rfl, _, h1, h2⟩ := ins_at hm1 rv hM
            obtain ⟨x, h3, h4⟩ := fw_look h2 hg
            exact ⟨a, _, dx, gs, x, rfl, h1, c, n, h3, Post.now (k := kE X.K z Q) hp1 hm1 x h4⟩
          · cases hg
        · cases hg
      · cases hg⟩
theorem qs_setF (c : Cls X.K C) (n : NoAttr X.K C f) (ho : QE X E o to) (he : QE X E e te) (hs : swapsWith e (some (.Attribute o f pos')) pos.line X.env = pure false := by rfl) : QS X E (.Assign [.Attribute o f pos'] e pos) (dSetF C f te to) :=
  PS.imp (ps_fld ho he hs) fun D σ H ⟨m, z, ρ, M, hs, hm, hp⟩ => ⟨m, z, ρ, M, hs, hm, (Post.unbind hp).imp fun w M1 m1 H1 _ e1 hm1 hp1 y ry => ⟨m1, z, ρ, M1, hs.mono e1, hm1, (Post.unbind hp1).imp fun u M2 m2 H2 _ e2 hm2 hp2 v rv => by
    cases hg : fSetF C f M2 u w with
    | none =>
      rw [hg] at hp2
      exact hp2.elim
    | some M3 =>
      rw [hg] at hp2
      unfold fSetF at hg
      split at hg
      · rename_i i
        split at hg
        · rename_i D' fs hM
          split at hg
          · rename_i hD
            obtain ⟨rfl, hl⟩ := hD
            cases hg
            obtain ⟨a, dx, gs, rfl, hi, h1, h2⟩ := ins_at hm2 rv hM
            refine ⟨a, _, dx, gs, rfl, h1, c, n, by rw [Paired.length h2]; exact hl, ?_⟩
            have ex : Ext m2 H2 m2 (upd H2 a (.ins D' dx (putF f y gs))) := Ext.write (List.mem_of_getElem? hi)
            have hm3 := hm2.write (o := .ins D' dx (putF f y gs)) (ob := .ins D' (putFW f w fs)) hi ⟨dx, _, upd_same, Paired.mapP (fw_put (ry.mono e2) h2) fun _ _ q => ⟨q.1, q.2.mono ex⟩⟩
            exact hp2 m2 _ ex hm3 σ (((hs.mono e1).mono e2).mono ex)
          · cases hg
        · cases hg
      · cases hg⟩⟩
def isIns (C : Addr) (nm : Str) (M : Mem) : W → Bool
  | .r i => match M[i]? with
    | some (.ins D fs) => decide (D = C) && (fs.lookup nm).isNone
    | _ => false
  | _ => false
def dMeth (C : Addr) (nm : Str) (F : FD) (to : DE) (t : DA) : DE := fun ρ M => (to ρ M).bind fun u M1 => if isIns C nm M1 u = true then (t ρ M1).bind fun ws M2 => F (u :: ws) M2 else .bot
theorem isIns_v {K : PySem.W.Frag} {m z : List Addr} {H : Hp} {M : Mem} {nm : Str} {u : W} {v : V} (hm : RM K m z H M) (rv : RW K m z H v u) (h : isIns C nm M u = true) : ∃ a dx gs, v = .ref a ∧ H a = some (.ins C dx gs) ∧ gs.lookup nm = none := by
  unfold isIns at h
  split at h
  · rename_i i
    split at h
    · rename_i D fs hM
      rw [Bool.and_eq_true, decide_eq_true_eq] at h
      obtain ⟨rfl, h⟩ := h
      obtain ⟨a, dx, gs, e, _, h1, h2⟩ := ins_at hm rv hM
      exact ⟨a, dx, gs, e, h1, fw_none h2 (by simpa using h)⟩
    · cases h
  · cases h
theorem tMeth_of {F : FD} {nm : Str} : ∀ σ H Q, LE X.K E (dMeth C nm F to t) σ H Q → tMeth C nm (spOf X.K F) [] E (LE X.K E to) (LA X.K E t) σ H Q := fun σ H Q ⟨m, z, ρ, M, hs, hm, hp⟩ =>
  ⟨m, z, ρ, M, hs, hm, (Post.unbind hp).imp fun u M1 m1 H1 _ e1 hm1 hp1 v rv => by
    split at hp1
    · rename_i hi
      obtain ⟨a, dx, gs, rfl, h1, h2⟩ := isIns_v hm1 rv hi
      refine ⟨a, dx, gs, rfl, h1, h2, m1, z, ρ, M1, hs.mono e1, hm1, (Post.unbind hp1).imp fun ws M2 m2 H2 _ e2 hm2 hp2 vs rvs => ?_⟩
      show spOf X.K F (V.ref a :: (vs ++ [])) H2 Q E
      rw [List.append_nil]
      exact ⟨m2, z, u :: ws, M2, .cons (rv.mono e2) rvs, hm2, hp2⟩
    · exact hp1.elim⟩
theorem pe_methG {k : Nat} {g : Addr} {nm : Str} {fd : FuncData} {ps : List Str} {sp : Sp} {ta : TE} {tt : TA} {apos : Pos} {pl : Sem Bool} (he : PE X o ta) (c : Cls X.K C) (hm : Meth X.K C nm g) (F : FnG X.prog X.w X.K X.mg X.base k g fd ps sp) (hgd : X.A.guards = some []) (hr : Room k X.A) (hb : Binds X.K fd ps [])
    (hx : Passes (L2.CX X.prog X.w) X E) (ha : PA X (e :: es) tt) (hst : starEach (e :: es) X.env = (false, eval e X.env) :: starEach es X.env := by rfl) (hpl : (backTo pos (starEach es X.env)).any (·.1) = false := by rfl)
    (ht : eval (.Call (.Attribute o nm apos) (e :: es) [] pos) X.env = (do
      let ov ← eval o X.env
      standAt apos.atName
      let (fx, first) ← holding [ov] (getMethod ov nm pl)
      callWith pos fx first (backTo pos (starEach (e :: es) X.env)) (backToKw pos (keywordEach [] X.env))) := by rfl) : PE X (.Call (.Attribute o nm apos) (e :: es) [] pos) (tMeth C nm sp [] E ta tt) := by
  refine ⟨fun pins s σ H Q I h => PySem.W.methodCall_KW (pl := pl) (thn (he.run pins s σ H _ I h) fun u s1 ⟨x, H1, I1, rx, a, dx, fs, ex, ea, l, q⟩ => ?_) ht⟩
  subst ex
  obtain rfl : u = Value.ref a := rx
  refine getmeth_ok I1 ea c hm l (PySem.W.callWith_K (first := [.ref a]) (h₀ := X.base) I.ok.mod.kin hm.kp (thn (ha.run pos pins s1 σ H1 _ I1 q) fun us s2 ⟨vs, H2, I2, r, q2⟩ => ⟨I2.kIn, ?_⟩) hst hpl)
  have q3 : sp (V.ref a :: (vs ++ [])) H2 Q E := q2
  rw [List.append_nil] at q3
  exact run_fnG (us := .ref a :: us) (vs := .ref a :: vs) F hgd hr hb hx I2 (.cons rfl r) q3
theorem pe_meth0G {k : Nat} {g : Addr} {nm : Str} {fd : FuncData} {ps : List Str} {sp : Sp} {ta : TE} {apos : Pos} {pl : Sem Bool} (he : PE X o ta) (c : Cls X.K C) (hm : Meth X.K C nm g) (F : FnG X.prog X.w X.K X.mg X.base k g fd ps sp) (hgd : X.A.guards = some []) (hr : Room k X.A) (hb : Binds X.K fd ps [])
    (hx : Passes (L2.CX X.prog X.w) X E)
    (ht : eval (.Call (.Attribute o nm apos) [] [] pos) X.env = (do
      let ov ← eval o X.env
      standAt apos.atName
      let (fx, first) ← holding [ov] (getMethod ov nm pl)
      callWith pos fx first (backTo pos (starEach [] X.env)) (backToKw pos (keywordEach [] X.env))) := by rfl) : PE X (.Call (.Attribute o nm apos) [] [] pos) (tMeth C nm sp [] E ta tNil) := by
  refine ⟨fun pins s σ H Q I h => PySem.W.methodCall_KW (pl := pl) (thn (he.run pins s σ H _ I h) fun u s1 ⟨x, H1, I1, rx, a, dx, fs, ex, ea, l, q⟩ => ?_) ht⟩
  subst ex
  obtain rfl : u = Value.ref a := rx
  refine getmeth_ok I1 ea c hm l (PySem.W.callWith_K0 (first := [.ref a]) I1.kIn hm.kp (run_fnG (us := [.ref a]) (vs := [.ref a]) F hgd hr hb hx I1 (.cons rfl .nil) ?_))
  exact q
theorem q_meth {k : Nat} {g : Addr} {nm : Str} {fd : FuncData} {ps : List Str} {F : FD} {apos : Pos} {pl : Sem Bool} (o1 : FnG X.prog X.w X.K X.mg X.base k g fd ps (spOf X.K F)) (c : Cls X.K C) (hm : Meth X.K C nm g) (hgd : X.A.guards = some []) (hr : Room k X.A) (hb : Binds X.K fd ps []) (hx : Passes (L2.CX X.prog X.w) X E)
    (ho : QE X E o to) (ha : QA X E (e :: es) t) (hst : starEach (e :: es) X.env = (false, eval e X.env) :: starEach es X.env := by rfl) (hpl : (backTo pos (starEach es X.env)).any (·.1) = false := by rfl)
    (ht : eval (.Call (.Attribute o nm apos) (e :: es) [] pos) X.env = (do
      let ov ← eval o X.env
      standAt apos.atName
      let (fx, first) ← holding [ov] (getMethod ov nm pl)
      callWith pos fx first (backTo pos (starEach (e :: es) X.env)) (backToKw pos (keywordEach [] X.env))) := by rfl) : QE X E (.Call (.Attribute o nm apos) (e :: es) [] pos) (dMeth C nm F to t) :=
  PE.imp (pe_methG ho c hm o1 hgd hr hb hx ha hst hpl ht) tMeth_of
theorem q_meth0 {k : Nat} {g : Addr} {nm : Str} {fd : FuncData} {ps : List Str} {F : FD} {apos : Pos} {pl : Sem Bool} (o1 : FnG X.prog X.w X.K X.mg X.base k g fd ps (spOf X.K F)) (c : Cls X.K C) (hm : Meth X.K C nm g) (hgd : X.A.guards = some []) (hr : Room k X.A) (hb : Binds X.K fd ps []) (hx : Passes (L2.CX X.prog X.w) X E)
    (ho : QE X E o to)
    (ht : eval (.Call (.Attribute o nm apos) [] [] pos) X.env = (do
      let ov ← eval o X.env
      standAt apos.atName
      let (fx, first) ← holding [ov] (getMethod ov nm pl)
      callWith pos fx first (backTo pos (starEach [] X.env)) (backToKw pos (keywordEach [] X.env))) := by rfl) : QE X E (.Call (.Attribute o nm apos) [] [] pos) (dMeth C nm F to dNil) :=
  PE.imp (pe_meth0G ho c hm o1 hgd hr hb hx ht) fun σ H Q ⟨m, z, ρ, M, hs, hm, hp⟩ => ⟨m, z, ρ, M, hs, hm, (Post.unbind hp).imp fun u M1 m1 H1 _ e1 hm1 hp1 v rv => by
    split at hp1
    · rename_i hi
      obtain ⟨a, dx, gs, rfl, h1, h2⟩ := isIns_v hm1 rv hi
      exact ⟨a, dx, gs, rfl, h1, h2, m1, z, [u], M1, .cons rv .nil, hm1, hp1⟩
    · exact hp1.elim⟩
/-- C(..) -/
def dMake (C : Addr) (F : FD) (t : DA) : DE := fun ρ M => (t ρ M).bind fun ws M1 => (F (.r M1.length :: ws) (M1 ++ [.ins C []])).bind fun w M2 => match w with
  | .d .none => .ok (.r M1.length) M2
  | _ => .bot
theorem pe_makeG {k : Nat} {g : Addr} {x : Str} {fd : FuncData} {ps : List Str} {sp : Sp} {tt : TA} {p : Pos} (Mm : Mk X.K C g) (F : FnG X.prog X.w X.K X.mg X.base k g fd ps sp) (hgd : X.A.guards = some []) (hr : Room (k + 1) X.A) (hg : Gl X x) (hmg : X.mg x = some (.ref C)) (hb : Binds X.K fd ps [])
    (hx : Passes (L2.CX X.prog X.w) X E) (ha : PA X (e :: es) tt) (hdb : (x == ("__debug__" : Str)) = false := by decide) (he : starEach (e :: es) X.env = (false, eval e X.env) :: starEach es X.env := by rfl) (hpl : (backTo pos (starEach es X.env)).any (·.1) = false := by rfl) :
    PE X (.Call (.Name x p) (e :: es) [] pos) (tMake C sp [] E tt) := by
  refine ⟨fun pins s σ H Q I h => wpAny_Call_Name_kw (ld_glob I hg hmg ?_ hdb)⟩
  refine PySem.W.callWith_K (h₀ := X.base) I.ok.mod.kin Mm.kp (thn (ha.run pos pins s σ H _ I h) fun us s1 ⟨vs, H1, I1, r, q⟩ => ⟨I1.kIn, ?_⟩) he hpl
  have hq := q (s1.heap.objs.size + 1) s1.heap.objs.size (I1.hok.fresh (Nat.le_succ _)) (I1.hok.fresh (Nat.le_refl _)) (Nat.ne_of_lt (Nat.lt_succ_self _))
  rw [List.append_nil] at hq
  have I2 := Inv.made (C := C) I1
  have r2 : Vals (V.ref (s1.heap.objs.size + 1) :: vs) (Value.ref (s1.heap.objs.size + 1) :: us) := .cons rfl r
  have hl : (Value.ref (s1.heap.objs.size + 1) :: us ++ []).length = ps.length := by
    rw [List.append_nil, ← r2.length]
    exact F.many hq
  have hbu := hb _ (Value.ref (s1.heap.objs.size + 1) :: us) I2.kIn hl
  rw [List.append_nil] at hbu
  show wpAny _ _ (call (.ref C) us) _ _ _
  refine wpAny_call (make_map (f := g) I1.kIn Mm.makes Mm.init (beq_iff_eq.mp Mm.fn) (codeAny_mono (F.does (gd_make hgd) (hr.make C us []) (I2.env0.make C us []) hbu r2 hq) fun r s' hq' => ?_))
  match r, hq' with
  | .error er, hq' => exact hx pins σ _ _ er s' I2 hq'
  | .ok (.ret u), hq' =>
    obtain ⟨v, H', I3, rv, ev, q3⟩ := I2.after hq'
    subst ev
    exact ⟨rv, ⟨V.ref (s1.heap.objs.size + 1), H', I3, rfl, q3⟩⟩
  | .ok .next, hq' => exact hq'.elim
  | .ok .brk, hq' => exact hq'.elim
  | .ok .cont, hq' => exact hq'.elim
theorem q_make {k : Nat} {g : Addr} {x : Str} {fd : FuncData} {ps : List Str} {F : FD} {p : Pos} (Mm : Mk X.K C g) (o1 : FnG X.prog X.w X.K X.mg X.base k g fd ps (spOf X.K F)) (hgd : X.A.guards = some []) (hr : Room (k + 1) X.A) (hg : Gl X x) (hmg : X.mg x = some (.ref C)) (hb : Binds X.K fd ps [])
    (hx : Passes (L2.CX X.prog X.w) X E) (ha : QA X E (e :: es) t) (hdb : (x == ("__debug__" : Str)) = false := by decide) (he : starEach (e :: es) X.env = (false, eval e X.env) :: starEach es X.env := by rfl) (hpl : (backTo pos (starEach es X.env)).any (·.1) = false := by rfl) :
    QE X E (.Call (.Name x p) (e :: es) [] pos) (dMake C F t) :=
  PE.imp (pe_makeG Mm o1 hgd hr hg hmg hb hx ha hdb he hpl) fun σ H Q ⟨m, z, ρ, M, hs, hm, hp⟩ => ⟨m, z, ρ, M, hs, hm, (Post.unbind hp).imp fun ws M1 m1 H1 _ e1 hm1 hp1 vs rvs x dx hx hdx ne => by
    rw [List.append_nil]
    have x2 : upd H1 dx (.own x) x = none := by rw [upd_ne ne.symm]; exact hx
    have e2 : Ext m1 H1 m1 (upd H1 dx (.own x)) := Ext.new hdx
    have e3 : Ext m1 (upd H1 dx (.own x)) (m1 ++ [x]) (upd (upd H1 dx (.own x)) x (.ins C dx [])) := Ext.alloc x2
    have hm2 := (hm1.new (o := .own x) hdx).alloc (o := .ins C dx []) (ob := .ins C []) x2 ⟨dx, [], upd_same, .nil⟩
    have at_ : (m1 ++ [x])[M1.length]? = some x := by rw [← hm1.len]; simp
    refine ⟨m1 ++ [x], z, .r M1.length :: ws, M1 ++ [.ins C []], .cons (.r at_) (RWs.mono (e2.trans e3) rvs), hm2, (Post.unbind (Post.mono (e2.trans e3) hp1)).imp fun w M3 m3 H3 _ e4 hm3 hp3 v rv => ?_⟩
    split at hp3
    · cases rv with
      | d rv =>
      cases rv
      exact ⟨rfl, Post.now (k := kE X.K z Q) hp3 hm3 _ (.r (e4.at at_))⟩
    · exact hp3.elim⟩
end
end By
namespace By
open PySem PySem.Spec PyProof.Rows L2
/-- the table's entries are known code objects -/
def Known (H : Hp) (q : Str) (ps : Array Value) : Prop := TriplesOk ps.toList ∧ ∀ (pos : Pos) (cv : Value), codeAmong pos ps.toList = some cv → ∃ c, cv = .ref c ∧ H c = some (LamX.CodeO c q)
/-- what making such a lambda does to the heap -/
def LamStep (H : Hp) (P : Addr) (q : Str) (ps : Array Value) (H1 : Hp) : Prop :=
  H1 = H ∨ ∃ (more : Array Value) (c : Addr), H c = none ∧ H1 = upd (upd H c (LamX.CodeO c q)) P (.tbl (ps ++ more)) ∧ TriplesOk (ps ++ more).toList ∧ ∀ (pos : Pos) (cv : Value), codeAmong pos (ps ++ more).toList = some cv → cv = .ref c ∨ codeAmong pos ps.toList = some cv
section
variable {X : Cx} {pins : List (Addr × Obj)} {σ : L2.St} {H : Hp} {s : Shared}
/-- the reading of x(lambda: body) -/
def tLamE (P : Addr) (q : Str) (TT : (XK → Hp → VK → Prop) → Hp → VK → Prop) (t : XK → TE) : TE := fun σ H Q => ∃ ps, H P = some (.tbl ps) ∧ Known H q ps ∧ ∀ H1, LamStep H P q ps H1 → TT (fun E H' Q' => t E σ H' Q') H1 Q
end
/-- try: a() / except C as e: return (e.fld,); then return () -/
def TTerr (C : Addr) (fld : Str) : (XK → Hp → VK → Prop) → Hp → VK → Prop := fun tl H Q =>
  tl (fun cls d H' => cls = .ref C ∧ ∃ (dd : Addr) (fs : List (Str × V)) (v : V), d = some dd ∧ H' dd = some (.xd fs) ∧ fs.lookup fld = some v ∧ ∀ p, H' p = none → Q (.ref p) (upd H' p (.tup [v]))) H
    fun _ H' => ([] : List V).length ≤ sizeLine ∧ ∀ p, H' p = none → Q (.ref p) (upd H' p (.tup []))
section
variable {X : Cx}
theorem takes_len {X : Cx} {W : WX} (tk : Takes X W) : Takes X (fun cls d σ H => σ.length = X.N.length → W cls d σ H) := fun u s' ⟨a, B, sI, pins, σ, H, cls, d, e, I, nb, up, sky, na, os, ag, w⟩ =>
  tk u s' ⟨a, B, sI, pins, σ, H, cls, d, e, I, nb, up, sky, na, os, ag, w I.len⟩
end
end By
namespace By
open PySem PySem.Spec PyProof.Rows L2 PySem.Calls
def okI1 : PyData → Bool
  | .int i => decide (i.natAbs.log2 < 1920)
  | _ => false
/-- a number, or a tuple of a few numbers -/
def okRi (d : PyData) : Bool := match d with
  | .int i => decide (i.natAbs.log2 < 1920)
  | .tuple ds => ds.all okI1 && decide (ds.length ≤ 4)
  | _ => false
section
variable {X : Cx} {e : Expr} {te : TE} {pos : Pos}
/-- {x!r} of a number, a tuple of numbers -/
def tFmtRi (K : PySem.W.Frag) (te : TE) : TE := fun σ H Q => te σ H fun x H1 => ∃ d, Dp K H1 x d ∧ okRi d = true ∧ ∀ y : Str, y.length ≤ 10000 → Q (.str y) H1
end
section
variable {X : Cx} {e : Expr} {es : List Expr} {ta : TA} {x : Str} {C fI cc cda : Addr} {p pos : Pos} {name qual self v1 v2 f1 f2 : Str} {params : Arguments} {body : List Stmt} {dV kV doc pm ct : Value} {an : Option Addr} {sc : Scope}
end
end By
namespace By
open PySem PySem.Spec PyProof.Rows L2
def dRaise1 (ok : PyData → Bool) (C : Addr) (fld : Str) (te : DE) : DS := fun ρ M => (te ρ M).bind fun w M1 => match w with
  | .d d => if ok d = true then .ex ⟨.ref C, [(fld, d)]⟩ M1 else .bot
  | _ => .bot
section
variable {X : Cx} {E : XK} {C : Addr} {fld x : Str} {e : Expr} {te : DE} {p pos pos2 : Pos}
end
def lookD (fld : Str) : List (Str × PyData) → Option PyData
  | [] => none
  | (g, d) :: r => if fld = g then some d else lookD fld r
theorem lookD_v {K : PySem.W.Frag} {m z : List Addr} {H : Hp} {fld : Str} {d : PyData} : ∀ {fs : List (Str × V)} {ds : List (Str × PyData)}, Paired (fun (p : Str × V) (q : Str × PyData) => p.1 = q.1 ∧ RD K m z H p.2 q.2) fs ds → lookD fld ds = some d → ∃ v, fs.lookup fld = some v ∧ RD K m z H v d
  | _, _, .nil, h => by cases h
  | (g, v) :: fs, (g', x) :: ds, .cons ⟨e, r⟩ hs, h => by
    have e' : g = g' := e
    subst e'
    unfold lookD at h
    by_cases q : fld = g
    · subst q
      rw [if_pos rfl] at h
      cases h
      exact ⟨v, List.lookup_cons_self, r⟩
    · rw [if_neg q] at h
      obtain ⟨u, h1, h2⟩ := lookD_v hs h
      exact ⟨u, by rw [List.lookup_cons, show (fld == g) = false by simpa using q]; exact h1, h2⟩
open Classical in
/-- the error's field in a tuple of one, or the empty tuple -/
noncomputable def dErr (C : Addr) (fld : Str) (P : Addr) (q : Str) (tb : DE) : DE := fun ρ M => if O.ltb P q ∈ M then (match tb ρ M with
  | .ok _ M1 => .ok (.d (.tuple [])) M1
  | .ex e M1 => if e.cls = .ref C then (match lookD fld e.fs with
    | some d => .ok (.d (.tuple [d])) M1
    | none => .bot) else .bot
  | .bot => .bot) else .bot
section
variable {X : Cx} {E : XK}
end
end By
namespace By
open PySem PySem.Spec PyProof.Rows L2
section
variable {X : Cx} {E : XK} {C : Addr} {f : Str} {e o : Expr} {es : List Expr} {te to : DE} {t : DA} {pos pos' : Pos}
end
/-- a f b g c -/
def dChain (f g : F2) (ta tb tc : DE) : DE := fun ρ M => (ta ρ M).bind fun u M1 => (tb ρ M1).bind fun v M2 => (f u v M2).bind fun d M3 => match d with
  | .d (.bool true) => (tc ρ M3).bind fun w M4 => (g v w M4).bind fun d' M5 => match d' with
    | .d (.bool b) => .ok (.d (.bool b)) M5
    | _ => .bot
  | .d (.bool false) => .ok (.d (.bool false)) M3
  | _ => .bot
section
variable {X : Cx} {E : XK} {a b c : Expr} {f g : F2} {r r' : R2} {op op' : CmpOp} {ta tb tc : DE} {pos : Pos}
theorem chain_of (hr : B2 X.K E r f) (hr' : B2 X.K E r' g) {m z : List Addr} {H : Hp} {M : Mem} {σ : L2.St} {ρ : Rho} {Q : VK} {kk : W → Mem → List Addr → Hp → Prop} (hk : ∀ b M' m' H', RM X.K m' z H' M' → kk (.d (.bool b)) M' m' H' → Q (.bl b) H') (hs : RS X.K m z H σ ρ) (hm : RM X.K m z H M)
    (hp : Post X.K z E m H kk (dChain f g ta tb tc ρ M)) : tChain r r' (LE X.K E ta) (LE X.K E tb) (LE X.K E tc) σ H Q :=
  ⟨m, z, ρ, M, hs, hm, (Post.unbind hp).imp fun u M1 m1 H1 _ e1 hm1 hp1 x rx => ⟨m1, z, ρ, M1, hs.mono e1, hm1, (Post.unbind hp1).imp fun v M2 m2 H2 _ e2 hm2 hp2 y ry => hr m2 z H2 M2 x y u v _ hm2 (rx.mono e2) ry ((Post.unbind hp2).imp fun d M3 m3 H3 _ e3 hm3 hp3 t rt => by
    split at hp3
    · cases rt with
      | d rt =>
      cases rt
      refine ⟨true, rfl, ?_⟩
      rw [if_pos rfl]
      refine ⟨m3, z, ρ, M3, ((hs.mono e1).mono e2).mono e3, hm3, (Post.unbind hp3).imp fun w M4 m4 H4 _ e4 hm4 hp4 cc rc => hr' m4 z H4 M4 y cc v w _ hm4 ((ry.mono e3).mono e4) rc ((Post.unbind hp4).imp fun d' M5 m5 H5 _ e5 hm5 hp5 t' rt' => ?_)⟩
      split at hp5
      · cases rt' with
        | d rt' =>
        cases rt'
        exact hk _ _ _ _ hm5 (Post.now hp5 hm5)
      · exact hp5.elim
    · cases rt with
      | d rt =>
      cases rt
      refine ⟨false, rfl, ?_⟩
      rw [if_neg (by decide)]
      exact hk _ _ _ _ hm3 (Post.now hp3 hm3)
    · exact hp3.elim)⟩⟩
theorem qt_chain (ho : OpR X (compareOp op) r) (ho' : OpR X (compareOp op') r') (hr : B2 X.K E r f) (hr' : B2 X.K E r' g) (ha : QE X E a ta) (hb : QE X E b tb) (hc : QE X E c tc) (hm : lastMarks [op, op'] [b, c] = false := by with_unfolding_all rfl) : QT X E (.Compare a [op, op'] [b, c] pos) (dB (dChain f g ta tb tc)) :=
  PT.imp (pt_chain ho ho' ha hb hc hm) fun σ H Q ⟨m, z, ρ, M, hs, hm, hp⟩ => chain_of hr hr' (kk := fun w M1 m1 H1 => Post X.K z E m1 H1 (kT Q) (match w with
    | .d (.bool b) => .ok b M1
    | _ => .bot)) (fun b M' m' H' hm' hk => ⟨b, rfl, Post.now (k := kT Q) hk hm'⟩) hs hm (Post.unbind hp)
end
def fMax2 : FL := fun ws M => match ws with
  | [.d (.int i), .d (.int j)] => .ok (.d (.int (if j > i then j else i))) M
  | _ => .bot
def isBoolD : W → Option Bool
  | .d (.bool _) => some true
  | .d (.int _) => some false
  | .d .none => some false
  | .d (.str _) => some false
  | _ => none
def fIsBool : F1 := fun w M => match isBoolD w with
  | some b => .ok (.d (.bool b)) M
  | none => .bot
def dRep (te tn : DE) : DE := fun ρ M => (te ρ M).bind fun w M1 => (tn ρ M1).bind fun u M2 => match u with
  | .d (.int k) => if -1000000 ≤ k ∧ k ≤ 1000000 then .ok (.r M2.length) (M2 ++ [.lst (List.replicate k.toNat w)]) else .bot
  | _ => .bot
section
variable {X : Cx} {E : XK} {a b : Expr} {ta tb : DE} {p p2 lp pos : Pos}
end
end By
namespace By
open PySem PySem.Spec PyProof.Rows L2
section
variable {X : Cx} {E : XK} {a b : Expr} {t : DA}
theorem qs_parC {i j : Nat} {x y : Str} {px py pt pt2 pos : Pos} {kt k2 : Nat} (hc : X.calm = true) (nd : X.N.Nodup) (hi : X.N[i]? = some x) (hj : X.N[j]? = some y) (hx : Loc X.env.scope x) (hy : Loc X.env.scope y) (ha : QA X E [a, b] t)
    (hs : swapsWithSole [.Tuple [.Name x px, .Name y py] kt pt] (.Tuple [a, b] k2 pt2) pos.line X.env = pure false := by rfl) (hw : swappedStores [.Tuple [.Name x px, .Name y py] kt pt] (.Tuple [a, b] k2 pt2) X.env = pure none := by rfl)
    (fx : X.fn x = true ∨ X.env.scope.names.lookup x = some .local := by first | exact .inl rfl | exact .inr rfl) (fy : X.fn y = true ∨ X.env.scope.names.lookup y = some .local := by first | exact .inl rfl | exact .inr rfl)
    (h1 : (assignEach [.Tuple [.Name x px, .Name y py] kt pt] X.env).map (·.2) = [assign (.Tuple [.Name x px, .Name y py] kt pt) X.env] := by rfl) :
    QS X E (.Assign [.Tuple [.Name x px, .Name y py] kt pt] (.Tuple [a, b] k2 pt2) pos) (dPar i j t) :=
  PS.imp (ps_asg (pe_tup ha) (pg_tup hc (pgs_cons (pg_name nd hi hx fx) (pgs_cons (pg_name nd hj hy fy) pgs_nil))) hs hw h1) fun D σ H ⟨m, z, ρ, M, hs, hm, hp⟩ => ⟨m, z, ρ, M, hs, hm, (Post.unbind hp).imp fun ws M1 m1 H1 _ e1 hm1 hp1 vs rvs => by
    split at hp1
    · cases rvs with
      | cons r1 r2 =>
      cases r2 with
      | cons r2 r3 =>
      cases r3
      refine ⟨(by rw [sizeLine_eq]; exact (by decide : (2 : Nat) ≤ 16777216)), fun p hp0 => ⟨p, _, rfl, .inl (Rd.of upd_same), rfl, _, _, rfl, _, _, rfl, rfl, ?_⟩⟩
      exact hp1 m1 _ (Ext.new hp0) (hm1.new hp0) _ ((((hs.mono e1).mono (Ext.new hp0)).set (r1.mono (Ext.new hp0))).set (r2.mono (Ext.new hp0)))
    · exact hp1.elim⟩
end
section
variable {P : Program} {w : World} {K : PySem.W.Frag} {mg mb : Str → Option Value} {k : Nat} {fa a : Addr} {fd : FuncData} {x : Str} {F : FD} {s : Shared} {vs : List Value} {ns : List Int} {cs : List (Addr × Addr)} {pt : Nat → Addr} {H : Hp} {q0 : Option Str}
end
end By
namespace By
open PySem
section
variable {prog : Program} {w : World} {A : Around} {R : Result → Shared → Prop} {it : Addr} {fp wr : List Addr} {n : Nat} {P : Nat → Value → Prop} {St : Nat → Heap → Prop} {d : Value}
abbrev mxArgs (it bx : Addr) (d : Value) : Args := ⟨[.ref it, .none, .ref bx], [("default", d)]⟩
abbrev mxBox (us : Array Value) (c : Nat) : Obj := { cls := .type "list", dict := none, data := .seq us c, slots := #[] }
theorem mx_nm : (toString "max" ++ toString ".loop" : String) = "max.loop" := by decide
theorem mxd_loop (W : Walks prog w A.in1 it fp wr n P St) (bt : Nat → Nat → Bool) (hc : CmpOf prog w A.in1 .Gt P bt) (bx : Addr) (nb : bx ∉ fp) :
    ∀ (k j : Nat) (s : Shared) (best : Value) (c : Nat), n - (j + 1) = k → j + 1 ≤ n → St (j + 1) s.heap → P (argBest bt j) best → s.heap.get? bx = some (mxBox #[best, best] c) →
    (∀ v h' tk, P (argBest bt (n - 1)) v → (∀ b o, b ∉ wr → b ≠ bx → s.heap.get? b = some o → h'.get? b = some o) → R (.ok (.ret v)) { s with heap := h', toks := tk }) →
    codeAny (model prog w) A (.builtin "max.loop" (mxArgs it bx d)) R s := by
  have nw : bx ∉ wr := fun q => nb (W.sub _ q)
  intro k
  induction k with
  | zero =>
    intro j s best c hk hj st hp hb hR
    have e : j + 1 = n := by omega
    refine codeAny_builtin F.entry_max_loop ?_
    rw [Around.under_plainId F.plain_max_loop _]; show wpAny _ A.in1 (seqItems? (.ref bx) >>= _) _ _ s
    refine wpAny_bind (wpAny_seqItems hb rfl ?_); show wpAny _ A.in1 (tryCatch (pyNext (.ref it)) _ >>= _) _ _ s
    refine wpAny_bind (wpAny_tryCatch (W.done s _ _ (e ▸ st) fun h1 tk kp => ?_))
    have hb1 := kp bx _ nw hb
    show wpAny _ A.in1 (updateSeq bx (fun _ => #[]) >>= _) _ _ _
    refine wpAny_bind (wpAny_updateSeq hb1 rfl (wpAny_bind (wpAny_letGo (wpAny_pure (hR best _ tk (by rw [← e]; exact hp) fun b o h2 h3 q => ?_)))))
    exact (Heap.get?_update_other _ _ (Ne.symm h3)).trans (kp b o h2 q)
  | succ k ih =>
    intro j s best c hk hj st hp hb hR
    have lt : j + 1 < n := by omega
    refine codeAny_builtin F.entry_max_loop ?_
    rw [Around.under_plainId F.plain_max_loop _]; show wpAny _ A.in1 (seqItems? (.ref bx) >>= _) _ _ s
    refine wpAny_bind (wpAny_seqItems hb rfl ?_); show wpAny _ A.in1 (tryCatch (pyNext (.ref it)) _ >>= _) _ _ s
    refine wpAny_bind (wpAny_tryCatch (W.item (j + 1) s _ _ lt st fun v h1 tk hv st1 kp => ?_))
    have hb1 := kp bx _ nw hb
    show wpAny _ A.in1 (tryCatch (holding [v, v] (richCompare .Gt v best >>= _)) _ >>= _) _ _ _
    refine wpAny_bind (wpAny_tryCatch (wpAny_holding (wpAny_bind (hc (j + 1) (argBest bt j) v best _ _ _ hv hp (wpAny_bind (wpAny_holding (wpAny_truthy_bool (wpAny_bind (wpAny_letGo (wpAny_pure ?_))))))))))
    cases q : bt (j + 1) (argBest bt j) with
    | true =>
      simp only [if_true]
      refine wpAny_bind (wpAny_updateSeq hb1 rfl (wpAny_bind (wpAny_letGo ?_)))
      rw [mx_nm]
      refine wpAny_pure ⟨plainId_quiet F.plain_max_loop _, ih (j + 1) _ v _ (by omega) lt (W.frame _ _ _ st1 fun b hf o e => (Heap.get?_update_other _ _ (fun h : bx = b => nb (by rw [h]; exact hf))).trans e) (by simp only [argBest, q, if_true]; exact hv) (Heap.get?_update_self _ hb1 rfl) fun u h2 tk2 hu kp2 => ?_⟩
      exact hR u h2 tk2 hu fun b o h3 h4 e => kp2 b o h3 h4 ((Heap.get?_update_other _ _ (Ne.symm h4)).trans (kp b o h3 e))
    | false =>
      simp only [Bool.false_eq_true, if_false]
      refine wpAny_bind (wpAny_letGo ?_)
      rw [mx_nm]
      refine wpAny_pure ⟨plainId_quiet F.plain_max_loop _, ih (j + 1) _ best c (by omega) lt st1 (by simp only [argBest, q, Bool.false_eq_true, if_false]; exact hp) hb1 fun u h2 tk2 hu kp2 => ?_⟩
      exact hR u h2 tk2 hu fun b o h3 h4 e => kp2 b o h3 h4 (kp b o h3 e)
theorem mxd_first (W : Walks prog w A.in1 it fp wr n P St) (bt : Nat → Nat → Bool) (hc : CmpOf prog w A.in1 .Gt P bt) (bx : Addr) (nb : bx ∉ fp) {s : Shared} {c : Nat} (st : St 0 s.heap) (hb : s.heap.get? bx = some (mxBox #[] c))
    (h0 : n = 0 → ∀ h' tk, (∀ b o, b ∉ wr → b ≠ bx → s.heap.get? b = some o → h'.get? b = some o) → R (.ok (.ret d)) { s with heap := h', toks := tk })
    (hR : 0 < n → ∀ v h' tk, P (argBest bt (n - 1)) v → (∀ b o, b ∉ wr → b ≠ bx → s.heap.get? b = some o → h'.get? b = some o) → R (.ok (.ret v)) { s with heap := h', toks := tk }) :
    codeAny (model prog w) A (.builtin "max.loop" (mxArgs it bx d)) R s := by
  have nw : bx ∉ wr := fun q => nb (W.sub _ q)
  refine codeAny_builtin F.entry_max_loop ?_
  rw [Around.under_plainId F.plain_max_loop _]; show wpAny _ A.in1 (seqItems? (.ref bx) >>= _) _ _ s
  refine wpAny_bind (wpAny_seqItems hb rfl ?_); show wpAny _ A.in1 (tryCatch (pyNext (.ref it)) _ >>= _) _ _ s
  rcases Nat.eq_zero_or_pos n with hz | hz
  · refine wpAny_bind (wpAny_tryCatch (W.done s _ _ (hz ▸ st) fun h1 tk kp => ?_))
    exact wpAny_bind (wpAny_rule (wpAny_pure (h0 hz h1 tk fun b o h2 _ e => kp b o h2 e)))
  · refine wpAny_bind (wpAny_tryCatch (W.item 0 s _ _ hz st fun v h1 tk hv st1 kp => ?_))
    have hb1 := kp bx _ nw hb
    show wpAny _ A.in1 (updateSeq bx (fun _ => #[v, v]) >>= _) _ _ _
    refine wpAny_bind (wpAny_updateSeq hb1 rfl ?_)
    rw [mx_nm]
    refine wpAny_pure ⟨plainId_quiet F.plain_max_loop _, mxd_loop W bt hc bx nb _ 0 _ v _ rfl hz (W.frame _ _ _ st1 fun b hf o e => (Heap.get?_update_other _ _ (fun h : bx = b => nb (by rw [h]; exact hf))).trans e) hv (Heap.get?_update_self _ hb1 rfl) fun u h2 tk2 hu kp2 => ?_⟩
    exact hR hz u h2 tk2 hu fun b o h3 h4 e => kp2 b o h3 h4 ((Heap.get?_update_other _ _ (Ne.symm h4)).trans (kp b o h3 e))
end
section
variable {prog : Program} {w : World} {A : Around} {E : Value → Shared → Prop} {s : Shared}
/-- a built-in function called with keywords: what its body leaves -/
theorem call_tree_kw {id : String} {b : Builtin} {args : List Value} {kw : List (Str × Value)} {Q : Value → Shared → Prop} (kind : builtinKind id = none) (plain : plainId id = true) (entry : entryFor table id = some b) (ok : argsOk id ⟨args, kw⟩)
    (body : wpAny (model prog w) A.in1 (b ⟨args, kw⟩) (fun fin s' => match fin with
      | .done f => (match (Except.ok f : Result) with | .ok (.ret v) => Q v s' | .ok _ => False | .error e => E e s')
      | .again c' => c'.quiet = true ∧ codeAny (model prog w) A c' (fun r s' => match r with | .ok (.ret v) => Q v s' | .ok _ => False | .error e => E e s') s') E s) : wpAny (model prog w) A (call (.builtin id) args kw) Q E s := by
  refine wpAny_call (codeAny_call_builtin plain entry ?_); simp only [checkBuiltinCall, kind]
  revert ok; unfold argsOk
  cases Manifest.signature? id with
  | none => exact fun _ => wpAny_pure body
  | some sig =>
    intro ok
    have e : Bind.checkArgs id sig ⟨args, kw⟩ = pure () := ok
    show wpAny _ A.in1 (Bind.checkArgs id sig ⟨args, kw⟩) _ _ s
    rw [e]
    exact wpAny_pure body
theorem args_maxd (a d : Value) : argsOk "max" ⟨[a], [(Str.ofString "default", d)]⟩ := by
  unfold argsOk; kernel_rfl
theorem maxd_walk {x d : Value} {Q : Value → Shared → Prop}
    (h : wpAny (model prog w) A.in1 (pyIter x) (fun o s2 => ∃ it fp wr n P St bt, o = .ref it ∧ Walks prog w A.in1 it fp wr n P St ∧ St 0 s2.heap ∧ (∀ b ∈ fp, b < s2.heap.objs.size) ∧ CmpOf prog w A.in1 .Gt P bt ∧
      (n = 0 → ∀ h' tk, (∀ b o, b ∉ wr → s2.heap.get? b = some o → h'.get? b = some o) → Q d { s2 with heap := h', toks := tk }) ∧ (0 < n → ∀ v h' tk, P (argBest bt (n - 1)) v → (∀ b o, b ∉ wr → s2.heap.get? b = some o → h'.get? b = some o) → Q v { s2 with heap := h', toks := tk })) E s) :
    wpAny (model prog w) A (call (.builtin "max") [x] [(Str.ofString "default", d)]) Q E s := by
  refine call_tree_kw F.kind_max F.plain_max F.entry_max (args_maxd _ _) ?_
  show wpAny _ A.in1 (Builtin.Builtins.bindParams "max" ["key", "default"] 0 ⟨[], [(Str.ofString "default", d)]⟩ >>= _) _ _ s
  have e : Builtin.Builtins.bindParams "max" ["key", "default"] 0 ⟨[], [(Str.ofString "default", d)]⟩ = pure [none, some d] := rfl
  refine wpAny_bind (wpAny_of_eq e (wpAny_bind (wpAny_pure (wpAny_bind (wpAny_mono h (fun o s2 h2 => ?_) fun _ _ q => q)))))
  obtain ⟨it, fp, wr, n, P, St, bt, rfl, W, st, hf, hc, h0, hQ⟩ := h2
  refine wpAny_bind (wpAny_newObj_type ?_)
  have nb : s2.heap.objs.size ∉ fp := fun q => Nat.lt_irrefl _ (hf _ q)
  have kp : ∀ b o, s2.heap.get? b = some o → b ≠ s2.heap.objs.size ∧ (s2.heap.push (mxBox #[] 0)).get? b = some o := fun b o q => ⟨Nat.ne_of_lt (Heap.lt_size q), Heap.get?_push_of_some _ q⟩
  rw [mx_nm]
  exact wpAny_pure ⟨plainId_quiet F.plain_max_loop _, mxd_first W bt hc s2.heap.objs.size nb (W.frame _ _ _ st fun b _ o q => Heap.get?_push_of_some _ q) (Heap.get?_push_size _ rfl) (fun z h' tk k => h0 z h' tk fun b o h1 q => k b o h1 (kp b o q).1 (kp b o q).2) (fun z v h' tk hv k => hQ z v h' tk hv fun b o h1 q => k b o h1 (kp b o q).1 (kp b o q).2)⟩
open PyProof.Rows in
theorem maxd_raw {l : Addr} {its : List Value} {ns : List Int} {d : Value} {Q : Value → Shared → Prop} (hh : A.handled = none) (hl : s.heap.IsList l its.toArray) (hi : IntsAre its ns)
    (h0 : ns = [] → ∀ h' tk, (∀ b o, s.heap.get? b = some o → h'.get? b = some o) → Q d { s with heap := h', toks := tk })
    (hQ : 0 < ns.length → ∀ h' tk m t', (∀ b o, s.heap.get? b = some o → h'.get? b = some o) → m ∈ ns → (∀ a, a ∈ ns → a ≤ m) → Q (.int m t') { s with heap := h', toks := tk }) :
    wpAny (model prog w) A (call (.builtin "max") [.ref l] [(Str.ofString "default", d)]) Q E s := by
  obtain ⟨xs, e⟩ := hi.allInts.items
  have hn : numsOf (intItems xs).toList = ns := by rw [← e]; exact hi.numsOf
  rw [nums_intItems] at hn; subst hn; rw [e] at hl
  refine maxd_walk (iter_intList hl fun s2 q st hf hI => ?_)
  subst q
  refine ⟨_, _, _, _, _, _, _, rfl, Walks.list (A := A.in1) hh _ l hI (intItems xs), st, hf, CmpOf.ints_gt (numAt xs) (fun _ _ => intItems_at), fun z h' tk hk => ?_, fun z v h' tk hv hk => ?_⟩
  · have z' : xs.size = 0 := by simpa [intItems] using z
    exact h0 (by rw [Array.size_eq_zero_iff.mp z']; rfl) h' tk (old_kept hk)
  · have z' : 0 < xs.size := by simpa [intItems] using z
    have hv' : (intItems xs)[argBest (fun i j => decide (numAt xs i > numAt xs j)) (xs.size - 1)]? = some v := by simpa [intItems] using hv
    obtain ⟨t, rfl⟩ := intItems_at hv'
    obtain ⟨b1, b2⟩ := argBest_gt (numAt xs) (xs.size - 1)
    refine hQ (by rw [List.length_map, Array.length_toList]; exact z') h' tk _ t (old_kept hk) ?_ fun a ha => ?_
    · rw [numAt_eq]; exact PySem.getD_mem (by rw [List.length_map, Array.length_toList]; omega)
    · obtain ⟨j, hj, rfl⟩ := mem_getD ha
      rw [List.length_map, Array.length_toList] at hj
      rw [← numAt_eq]; exact b2 j (by omega)
end
open L2 PyProof.Rows in
def rMaxD (K : PySem.W.Frag) : List V → List V → Hp → VK → Prop := fun vs zs H Q => ∃ (a : Addr) (ns : List Int) (d : V), vs = [V.ref a] ∧ zs = [d] ∧ SqL K H a (ns.map V.int) ∧ (ns = [] → Q d H) ∧ (0 < ns.length → ∀ m, m ∈ ns → (∀ y, y ∈ ns → y ≤ m) → Q (.int m) H)
open L2 PyProof.Rows in
theorem cr_maxd {X : Cx} (hc : X.calm = true) : CallRK X (.builtin "max") [Str.ofString "default"] (rMaxD X.K) := by
  intro pins s σ H vs zs us ws Q I r rz h
  obtain ⟨a, ns, d, rfl, rfl, hs, q0, q1⟩ := h
  obtain ⟨its, rv, hl, _⟩ := I.list hs
  rw [Vals.ref1 r]
  cases rz with
  | cons r1 r2 =>
  cases r2
  exact maxd_raw (I.ok.hd hc) hl.isList rv.ints (fun z h' tk hk => ⟨d, H, I.kept hk, r1, q0 z⟩) fun z h' tk m t' hk h1 h2 => ⟨.int _, H, I.kept hk, ⟨_, rfl⟩, q1 z m h1 h2⟩
open L2 PyProof.Rows in
section
variable {X : Cx} {E : XK} {a d : Expr} {ta td : DE} {p pos kpos : Pos}
/-- max(xs, default=d) of a list of data: the greatest, or d -/
def dMaxD (ta td : DE) : DE := fun ρ M => (ta ρ M).bind fun w M1 => (td ρ M1).bind fun u M2 => match intsW M2 w with
  | some [] => .ok u M2
  | some (i :: ns) => .ok (.d (.int (maxL (i :: ns)))) M2
  | none => .bot
end
end By
namespace By
open PySem PySem.Spec PyProof.Rows L2
def pickL {α : Type} (lo st : Option Int) (l : List α) : List α := (sliceRange (sliceBounds lo none st l.length).1 (sliceBounds lo none st l.length).2.1 (sliceBounds lo none st l.length).2.2).filterMap (l[·]?)
theorem paired_app {α β : Type} {R : α → β → Prop} {xs xs' : List α} {ys ys' : List β} (h : Paired R xs ys) (h' : Paired R xs' ys') : Paired R (xs ++ xs') (ys ++ ys') := by
  induction h with
  | nil => exact h'
  | cons r _ ih => exact .cons r ih
section
variable {X : Cx} {E : XK} {e : Expr} {te : TE} {tl : TO} {lo : Option Expr} {l : Option Int} {c : Int} {k : Nat} {p1 p3 pos : Pos}
def tStepL (K : PySem.W.Frag) (l st : Option Int) (te : TE) : TE := fun σ H Q => te σ H fun x H1 => ∃ a xs, x = .ref a ∧ SqL K H1 a xs ∧ ∀ p, H1 p = none → Q (.ref p) (upd H1 p (.lst (pickL l st xs)))
end
section
variable {K : PySem.W.Frag} {m z : List Addr} {H : Hp}
theorem sqD_v {M : Mem} {v : V} {w : W} {ds : List PyData} (hm : RM K m z H M) (r : RW K m z H v w) (h : sqD M w = some ds) : ∃ a xs, v = .ref a ∧ (SqT K H a xs ∨ SqL K H a xs) ∧ RDs K m z H xs ds := by
  unfold sqD at h
  cases q : rd M w with
  | none => rw [q] at h; cases h
  | some d =>
    rw [q] at h
    cases d with
    | list es =>
      cases h
      obtain ⟨a, xs, e, h1, h2⟩ := rd_lst hm r q
      exact ⟨a, xs, e, .inr h1, h2⟩
    | tuple es =>
      cases h
      cases w with
      | p _ _ => cases q
      | r i =>
        unfold rd at q
        cases hM : M[i]? with
        | none => simp only [hM] at q; cases q
        | some o =>
          cases o with
          | lst ws =>
            simp only [hM] at q
            cases e : allD ws with
            | none => rw [e] at q; cases q
            | some l => rw [e] at q; cases q
          | _ => simp only [hM] at q; cases q
      | d x =>
        cases q
        cases r with
        | d r =>
        cases r with
        | tup h1 h2 => exact ⟨_, _, rfl, .inl h1.sq, h2⟩
    | _ => cases h
end
/-- xs[lo::st] -/
def dStep (l st : Option Int) (te : DE) : DE := fun ρ M => (te ρ M).bind fun w M1 => match rd M1 w with
  | some (.list ds) => .ok (.d (.list (pickL l st ds))) M1
  | _ => .bot
/-- *e, .. -/
def dStar (te : DE) (t : DA) : DA := fun ρ M => (te ρ M).bind fun w M1 => match sqD M1 w with
  | some ds => (t ρ M1).bind fun ws M2 => .ok (ds.map .d ++ ws) M2
  | none => .bot
def zipW (M : Mem) : W → W → Option (List W × Gd)
  | .d (.list ds), .d (.list es) => some (List.zipWith (fun a b => W.d (.tuple [a, b])) ds es, none)
  | .d (.list ds), .r k => match M[k]? with
    | some (.lst ws) => some (List.zipWith (fun a w => W.p (.d a) w) ds ws, some (k, ws))
    | _ => none
  | _, _ => none
def dZip (ta tb : DE) : DI := fun ρ M => (ta ρ M).bind fun u M1 => (tb ρ M1).bind fun w M2 => match zipW M2 u w with
  | some p => .ok p M2
  | none => .bot
def fSum : FL := fun ws M => match ws with
  | [w] => match intsW M w with
    | some ns => .ok (.d (.int ns.sum)) M
    | _ => .bot
  | _ => .bot
section
variable {X : Cx} {E : XK} {a b e : Expr} {es elts : List Expr} {ta tb te : DE} {t : DA} {tl : TO} {lo : Option Expr} {l : Option Int} {c : Int} {k kk : Nat} {p p1 p3 pos tpos : Pos}
theorem qa_star (he : QE X E e te) (hr : QA X E es t) (hs : starEach (.Starred e p :: es) X.env = (true, eval e X.env) :: starEach es X.env := by rfl) : QA X E (.Starred e p :: es) (dStar te t) :=
  PA.imp (StX.pa_star he hr hs) fun σ H Q ⟨m, z, ρ, M, hs, hm, hp⟩ => ⟨m, z, ρ, M, hs, hm, (Post.unbind hp).imp fun w M1 m1 H1 _ e1 hm1 hp1 v rv => by
    split at hp1
    · rename_i ds hd
      obtain ⟨a, xs, rfl, h1, h2⟩ := sqD_v hm1 rv hd
      refine ⟨a, xs, rfl, h1, m1, z, ρ, M1, hs.mono e1, hm1, (Post.unbind hp1).imp fun ws M2 m2 H2 _ e2 hm2 hp2 vs rvs => ?_⟩
      refine Post.now (k := kA X.K z Q) hp2 hm2 (xs ++ vs) ?_
      exact paired_app (rws_of_rds (RDs.mono e2 h2)) rvs
    · exact hp1.elim⟩
end
end By
namespace By
open PySem PySem.Spec PyProof.Rows L2
open Sem (wp)
def sumV : List Value → Int
  | [] => 0
  | .int i _ :: vs => i + sumV vs
  | _ :: vs => sumV vs
abbrev sumO (i : Int) (t : Tok) (c : Nat) : Obj := { cls := .type "list", dict := none, data := .seq #[.int i t] c, slots := #[] }
abbrev suTk (S : Addr) : Tk := ⟨some S, fun us c => sumO (sumV us) c.2 c.1, fun _ _ _ q => nomatch q⟩
def allIw (ws : List W) : Option (List Int) := (allD ws).bind allI
theorem allIw_cons {w : W} {ws : List W} {ns : List Int} (h : allIw (w :: ws) = some ns) : ∃ i ms, w = .d (.int i) ∧ ns = i :: ms ∧ allIw ws = some ms := by
  unfold allIw at h ⊢
  cases w with
  | r _ => cases h
  | p _ _ => cases h
  | d x =>
    unfold allD at h
    cases q : allD ws with
    | none => rw [q] at h; cases h
    | some ds =>
      rw [q] at h
      have h' : allI (x :: ds) = some ns := h
      cases x with
      | int i =>
        unfold allI at h'
        cases q2 : allI ds with
        | none => rw [q2] at h'; cases h'
        | some ms =>
          rw [q2] at h'
          cases h'
          exact ⟨i, ms, rfl, rfl, q2⟩
      | _ => cases h'
theorem sumV_of {K : PySem.W.Frag} {m z : List Addr} {H : Hp} : ∀ {ys : List W} {ns : List Int} {us : List Value} {vs : List V}, Vals vs us → RWs K m z H vs ys → allIw ys = some ns → sumV us = ns.sum
  | [], _, _, _, hv, .nil, h => by
    cases h
    cases hv
    rfl
  | w :: ws, ns, us, _, hv, .cons r rs, h => by
    obtain ⟨i, ms, rfl, rfl, h2⟩ := allIw_cons h
    cases hv with
    | cons r1 hv =>
    cases r with
    | d r =>
    cases r
    obtain ⟨t, rfl⟩ := r1
    show i + sumV _ = _
    rw [sumV_of hv rs h2, List.sum_cons]
theorem paired_take {α β : Type} {R : α → β → Prop} {xs : List α} {ys : List β} (h : Paired R xs ys) : ∀ k : Nat, Paired R (xs.take k) (ys.take k) := by
  induction h with
  | nil => intro k; rw [List.take_nil, List.take_nil]; exact .nil
  | cons r _ ih =>
    intro k
    cases k with
    | zero => exact .nil
    | succ k => exact .cons r (ih k)
theorem sumV_snoc {i : Int} {t : Tok} : ∀ us : List Value, sumV (us ++ [.int i t]) = sumV us + i
  | [] => by
    show i + 0 = 0 + i
    omega
  | u :: us => by
    have ih := sumV_snoc (i := i) (t := t) us
    cases u <;> first | exact ih | (show _ + sumV (us ++ [.int i t]) = _ + sumV us + i; rw [ih]; omega)
theorem allIw_take : ∀ {ws : List W} {ns : List Int} (k : Nat), allIw ws = some ns → allIw (ws.take k) = some (ns.take k)
  | [], ns, k, h => by
    cases h
    cases k <;> rfl
  | w :: ws, ns, 0, h => rfl
  | w :: ws, ns, k + 1, h => by
    obtain ⟨i, ms, rfl, rfl, h2⟩ := allIw_cons h
    have ih := allIw_take k h2
    rw [List.take_succ_cons, List.take_succ_cons]
    unfold allIw at ih ⊢
    unfold allD
    cases q : allD (ws.take k) with
    | none => rw [q] at ih; cases ih
    | some ds =>
      rw [q] at ih
      show allI (.int i :: ds) = _
      have ih' : allI ds = some (ms.take k) := ih
      unfold allI
      rw [ih']
      rfl
theorem allIw_len : ∀ {ws : List W} {ns : List Int}, allIw ws = some ns → ns.length = ws.length
  | [], ns, h => by
    cases h
    rfl
  | w :: ws, ns, h => by
    obtain ⟨i, ms, rfl, rfl, h2⟩ := allIw_cons h
    rw [List.length_cons, List.length_cons, allIw_len h2]
section
variable {X : Cx} {z fp : List Addr} {sc : Shared} {m1 : List Addr} {H1 : Hp} {a : Addr} {g : Nat} {ys : List W} {Mf : Mem} {ns : List Int}
theorem GFact.int {o : Tk} {us : List Value} {v : Value} {m : List Addr} {H : Hp} {s : Shared} (h : GFact X z fp sc m1 H1 a g o (us ++ [v]) (ys.take (us.length + 1)) m H s) (hl : us.length < ys.length) (hb : allIw ys = some ns) : ∃ i t, v = .int i t ∧ sumV us = (ns.take us.length).sum ∧ sumV us + i = (ns.take (us.length + 1)).sum := by
  obtain ⟨vs, h1, h2⟩ := h.vals
  have q := sumV_of h1 h2 (allIw_take _ hb)
  have hlen := Paired.length h1
  rw [List.length_append] at hlen
  have e1 : Vals (vs.take us.length) us := by
    have := paired_take h1 us.length
    rw [List.take_left] at this
    exact this
  have e2 : RWs X.K m z H (vs.take us.length) (ys.take us.length) := by
    have := paired_take h2 us.length
    rw [List.take_take, Nat.min_eq_left (Nat.le_succ _)] at this
    exact this
  have q2 := sumV_of e1 e2 (allIw_take _ hb)
  have hn := allIw_len hb
  obtain ⟨i, t, rfl⟩ : ∃ i t, v = .int i t := by
    have e3 : (us ++ [v])[us.length]? = some v := by rw [List.getElem?_append_right (Nat.le_refl _), Nat.sub_self]; rfl
    have hy : (ys.take (us.length + 1))[us.length]? = some (ys[us.length]) := by rw [List.getElem?_take_of_lt (Nat.lt_succ_self _), List.getElem?_eq_getElem hl]
    obtain ⟨x, hx, rx⟩ := RWs.get h2 hy
    obtain ⟨u, hu, ru⟩ := h1.get hx
    rw [e3] at hu
    cases hu
    have hi : ∃ i, ys[us.length] = .d (.int i) := by
      have go : ∀ {ws : List W} {ks : List Int} (k : Nat) (hk : k < ws.length), allIw ws = some ks → ∃ i, ws[k] = .d (.int i) := by
        intro ws
        induction ws with
        | nil => intro ks k hk; cases hk
        | cons w ws ih =>
          intro ks k hk h
          obtain ⟨i, ms, rfl, rfl, h2⟩ := allIw_cons h
          cases k with
          | zero => exact ⟨i, rfl⟩
          | succ k => exact ih k (by simpa using hk) h2
      exact go _ hl hb
    obtain ⟨i, hi⟩ := hi
    rw [hi] at rx
    cases rx with
    | d rx =>
    cases rx
    obtain ⟨t, rfl⟩ := ru
    exact ⟨i, t, rfl⟩
  exact ⟨i, t, rfl, q2, by rw [← q, sumV_snoc]⟩
theorem sleep_sum {S : Addr} {us : List Value} {v : Value} {s : Shared} {G : Array GenState} {h : Heap} {k c : Nat} {t : Tok} (hk : ∀ b o, b ≠ S → s.heap.get? b = some o → h.get? b = some o) (hS : h.get? S = some (sumO (sumV (us ++ [v])) t c)) (hG : AllBare G) : Sleep (suTk S) us v s { s with gens := G, toks := k, heap := h } where
  os := rfl
  bare := hG
  keep := fun b o hb e => hk b o (fun q => hb (by rw [q])) e
  own := ⟨(c, t), fun p hp => by
    rw [List.mem_singleton.mp hp]
    exact hS⟩
theorem sum_loopG {A : Around} {R : Result → Shared → Prop} {S : Addr} (hh : A.handled = none) (hd : A.depth < recursionLimit) (hSa : S ≠ a) (hSc : S ≠ cStatics) (hI : allIw ys = some ns)
    (hend : ∀ s' us m H t, GFact X z fp sc m1 H1 a g noTk us ys m H s' → RM X.K m z H Mf → R (.ok (.ret (.int ns.sum t))) s') :
    ∀ (n k : Nat) (s : Shared) (tA : Tok) (c : Nat) (stage : Int), (stage = 0 ∨ stage = 2) → k + n = ys.length → s.heap.get? S = some (sumO (ns.take k).sum tA c) → s.heap.IsGen a g → s.heap.NoLimit →
      (∃ gs, s.gens[g]? = some gs ∧ gs.Goes (model X.prog X.w) A.in1.in1 (GEnd' (GP X z fp sc m1 H1 a g (suTk S) ys false Mf)) (GY X z fp sc m1 H1 a g (suTk S) ys false Mf) n (.send .none) (s.setGen g .running)) →
      codeAny (model X.prog X.w) A (.builtin "sum.loop" ⟨[.ref a, .ref S, rawInt stage, rawInt 0], []⟩) R s := by
  intro n
  induction n with
  | zero =>
    intro k s tA c stage hst hk hS hg hl ⟨gs, hgs, hgo⟩
    refine codeAny_builtin F.entry_sum_loop ?_
    rw [Around.under_plainId F.plain_sum_loop _]
    show wpAny _ A.in1 (seqItems? (.ref S) >>= _) _ _ s
    refine wpAny_bind (wpAny_seqItems hS rfl ?_)
    show wpAny _ A.in1 (tryCatch (pyNext (.ref a)) _ >>= _) _ _ s
    refine wpAny_bind (wpAny_tryCatch ?_)
    refine wpAny_pyNext_genexpQ (A := A.in1) hh hl hd hg hgs hgo (fun v s₁ gs' hbare hv => ?_) (fun s₁ hp h' hk => ?_)
    · obtain ⟨us, m', H', hlen, hf, ⟨⟨c1, c2⟩, hown⟩, _, hk⟩ := hv
      have hS1 := hown (S, _) (List.mem_singleton.mpr rfl)
      exact False.elim (hk (fun _ => rfl) _ (sleep_sum (h := s₁.heap.update S (Obj.mapSeq fun _ => #[.int (sumV (us ++ [v])) 0])) (k := s₁.toks) (fun b o hb e => (Heap.get?_update_other _ _ (Ne.symm hb)).trans e) (Heap.get?_update_self _ hS1 rfl) hf.bare))
    · obtain ⟨_, _, us, m, H, hlen, hf, _, hm⟩ := hp
      have e : (ns.take k).sum = ns.sum := by rw [List.take_of_length_le (by rw [allIw_len hI]; omega)]
      have q := hend { s₁.setGen g .finished with heap := h' } us m H tA ⟨hf.os, allBare_setGen hf.bare rfl, hf.nl.keeps hk, hf.gen.keeps hk, hf.un.trans (Un.kept hk), hf.hok.kept hk, (fun S q => by cases q), hf.ext, hf.vals⟩ hm
      rw [← e] at q
      exact wpAny_pure q
  | succ n ih =>
    intro k s tA c stage hst hk hS hg hl ⟨gs, hgs, hgo⟩
    have hgl : g < s.gens.size := (Array.getElem?_eq_some_iff.mp hgs).1
    refine codeAny_builtin F.entry_sum_loop ?_
    rw [Around.under_plainId F.plain_sum_loop _]
    show wpAny _ A.in1 (seqItems? (.ref S) >>= _) _ _ s
    refine wpAny_bind (wpAny_seqItems hS rfl ?_)
    show wpAny _ A.in1 (tryCatch (pyNext (.ref a)) _ >>= _) _ _ s
    refine wpAny_bind (wpAny_tryCatch ?_)
    refine GenW.wpAny_gsz (n := g + 1) hgl (wpAny_pyNext_genexpQ (A := A.in1) hh hl hd hg hgs hgo (fun v s₁ gs' hbare hv => ?_) (fun s₁ hp h' hk => ?_))
    · intro hsz1
      obtain ⟨us, m', H', hlen, hf, ⟨⟨c1, c2⟩, hown⟩, _, hkk⟩ := hv
      have hS1 := hown (S, _) (List.mem_singleton.mpr rfl)
      have hlen' : us.length + n + 1 = ys.length := hlen
      have hul : us.length = k := by omega
      obtain ⟨i, t, rfl, e1, e2⟩ := hf.int (by omega) hI
      rw [hul] at e1 e2
      have hsz1 : g < s₁.gens.size := by
        have q : (s₁.setGen g gs').gens.size = s₁.gens.size := GenW.setGen_size _ _ _
        have hsz' : g + 1 ≤ (s₁.setGen g gs').gens.size := hsz1
        omega
      have es : sumV (us ++ [.int i t]) = (ns.take k).sum + i := by rw [sumV_snoc, e1]
      have en : (ns.take k).sum + i = (ns.take (k + 1)).sum := by rw [← e1, e2]
      -- behind the turn
      have go : ∀ (h' : Heap) (tk : Nat) (t' : Tok) (c' : Nat) (st' : Int), (st' = 0 ∨ st' = 2) → (∀ b o, b ≠ S → s₁.heap.get? b = some o → h'.get? b = some o) → h'.get? S = some (sumO ((ns.take k).sum + i) t' c') →
          codeAny (model X.prog X.w) A (.builtin "sum.loop" ⟨[.ref a, .ref S, rawInt st', rawInt 0], []⟩) R { s₁.setGen g gs' with heap := h', toks := tk } := fun h' tk t' c' st' hst' kp hS' => by
        refine ih (k + 1) _ t' c' st' hst' (by omega) (by rw [← en]; exact hS') ?_ ?_ ⟨gs', setGen_at hsz1, ?_⟩
        · obtain ⟨o, nm, qn, ho, r⟩ := hf.gen
          exact ⟨o, nm, qn, kp a o (Ne.symm hSa) ho, r⟩
        · obtain ⟨mc, hns, hnn⟩ := hf.nl
          exact ⟨mc, hns.at' fun o e => kp _ o (Ne.symm hSc) e, hnn⟩
        · exact hkk (fun _ => rfl) _ (sleep_sum (t := t') (c := c') kp (by rw [es]; exact hS') (allBare_setGen (s := s₁.setGen g gs') (allBare_setGen hf.bare hbare) rfl))
      have other : ∀ {h : Heap} (f : Obj → Obj), ∀ b o, b ≠ S → h.get? b = some o → (h.update S f).get? b = some o := fun f b o hb e => (Heap.get?_update_other _ _ (Ne.symm hb)).trans e
      rcases hst with rfl | rfl
      · show wpAny _ A.in1 (if (_ : Bool) = true then (mkInt ((ns.take k).sum + i) >>= _) else _) _ _ _
        split
        · refine wpAny_bind (wpAny_mkInt ?_)
          show wpAny _ A.in1 (updateSeq S (fun _ => #[.int ((ns.take k).sum + i) s₁.toks]) >>= _) _ _ _
          refine wpAny_bind ?_
          refine wpAny_updateSeq hS1 rfl (wpAny_pure ⟨plainId_quiet F.plain_sum_loop _, ?_⟩)
          exact go _ _ _ _ 0 (.inl rfl) (other _) (Heap.get?_update_self _ hS1 rfl)
        · refine wpAny_bind (wpAny_rule ?_)
          refine wpAny_bind (wpAny_attempt (wpAny_holding (PySem.P.add_int ?_)))
          show wpAny _ A.in1 (updateSeq S (fun _ => #[.int ((ns.take k).sum + i) s₁.toks]) >>= _) _ _ _
          refine wpAny_bind ?_
          refine wpAny_updateSeq hS1 rfl ?_
          have hS2 := Heap.get?_update_self (Obj.mapSeq fun _ => #[Value.int ((ns.take k).sum + i) s₁.toks]) hS1 rfl
          refine wpAny_bind (wpAny_letGo ?_)
          refine wpAny_bind ?_
          refine wpAny_updateSeq hS2 rfl (wpAny_pure ⟨plainId_quiet F.plain_sum_loop _, ?_⟩)
          exact go _ _ _ _ 2 (.inr rfl) (fun b o hb e => other _ b o hb (other _ b o hb e)) (Heap.get?_update_self _ hS2 rfl)
      · show wpAny _ A.in1 ((holding [Value.int i t] (binaryOp .Add (.int (ns.take k).sum tA) (.int i t))).attempt >>= _) _ _ _
        refine wpAny_bind (wpAny_attempt (wpAny_holding (PySem.P.add_int ?_)))
        show wpAny _ A.in1 (updateSeq S (fun _ => #[.int ((ns.take k).sum + i) s₁.toks]) >>= _) _ _ _
        refine wpAny_bind ?_
        refine wpAny_updateSeq hS1 rfl ?_
        have hS2 := Heap.get?_update_self (Obj.mapSeq fun _ => #[Value.int ((ns.take k).sum + i) s₁.toks]) hS1 rfl
        refine wpAny_bind (wpAny_letGo ?_)
        refine wpAny_bind ?_
        refine wpAny_updateSeq hS2 rfl (wpAny_pure ⟨plainId_quiet F.plain_sum_loop _, ?_⟩)
        exact go _ _ _ _ 2 (.inr rfl) (fun b o hb e => other _ b o hb (other _ b o hb e)) (Heap.get?_update_self _ hS2 rfl)
    · obtain ⟨hz, _⟩ := hp
      cases hz
theorem call_sum_gx {A : Around} {E : Value → Shared → Prop} {Q : Value → Shared → Prop} {code : Code} {s : Shared} (hR : GRdy X z sc m1 H1 fp a g code ys false Mf s) (hh : A.handled = none) (hf : A.frames = some X.stack) (hgu : A.guards = X.A.guards) (hdp : A.depth = X.A.depth) (hun : A.units ≤ X.A.units) (hd : A.depth < recursionLimit) (hI : allIw ys = some ns)
    (hQ : ∀ s' us m H t, GFact X z fp sc m1 H1 a g noTk us ys m H s' → RM X.K m z H Mf → Q (.int ns.sum t) s') : wpAny (model X.prog X.w) A (call (.builtin "sum") [.ref a]) Q E s := by
  have hSa : s.heap.objs.size ≠ a := Nat.ne_of_gt hR.hi
  have hcl : cStatics < s.heap.objs.size := let ⟨_, hn, _⟩ := hR.nl; hn.lt
  have hSc : s.heap.objs.size ≠ cStatics := Nat.ne_of_gt hcl
  refine call_function_tree F.kind_sum F.plain_sum F.entry_sum (F.args_sum1 _) ?_
  unfold Builtin.«sum»
  simp only [List.length_cons, List.length_nil]
  rw [if_neg (by decide)]
  refine wpAny_bind (wpAny_of_eq (show Builtin.Builtins.bindParams "sum" ["start"] 0 { } = pure [none] from rfl) ?_)
  refine wpAny_bind (wpAny_pyIter_gen hR.gen ?_)
  refine wpAny_bind (wpAny_mkInt ?_)
  refine wpAny_bind (wpAny_pure ?_)
  simp only [List.forIn_cons, List.forIn_nil]
  refine wpAny_bind (wpAny_bind (wpAny_bind (wpAny_isInstance (T := "int") (b := false) (typeIs_int _ _ _) PySem.sub_int_str ?_)))
  simp only [Bool.false_eq_true, if_false]
  refine wpAny_pure (wpAny_bind (wpAny_bind (wpAny_isInstance (T := "int") (b := false) (typeIs_int _ _ _) PySem.sub_int_bytes ?_)))
  simp only [Bool.false_eq_true, if_false]
  refine wpAny_pure (wpAny_bind (wpAny_bind (wpAny_isInstance (T := "int") (b := false) (typeIs_int _ _ _) PySem.sub_int_bytearray ?_)))
  simp only [Bool.false_eq_true, if_false]
  refine wpAny_pure (wpAny_pure ?_)
  refine wpAny_bind (wpAny_newObj_type ?_)
  have k1 : ∀ b o, s.heap.get? b = some o → (s.heap.push (sumO 0 s.toks 0)).get? b = some o := fun b o e => Heap.get?_push_of_some _ e
  have hS : (s.heap.push (sumO 0 s.toks 0)).get? s.heap.objs.size = some (sumO 0 s.toks 0) := Heap.get?_push_size _ rfl
  refine wpAny_pure ⟨plainId_quiet F.plain_sum_loop _, sum_loopG (z := z) (fp := fp) (sc := sc) (m1 := m1) (H1 := H1) (Mf := Mf) (A := A) hh hd hSa hSc hI (fun s' us m H t q1 q2 => hQ s' us m H t q1 q2) ys.length 0 _ s.toks 0 0 (.inl rfl) (by omega) hS (hR.gen.keeps k1) (hR.nl.keeps k1) ⟨_, hR.fresh, rfl, ?_⟩⟩
  exact hR.wake _ (suTk s.heap.objs.size) _ hh hf hgu hdp (by show A.units + 1 + 1 ≤ _; omega) (fun S q => by cases q; exact Nat.le_refl _) k1 ⟨(0, s.toks), fun p hp => by
    rw [List.mem_singleton.mp hp]
    exact hS⟩ rfl (allBare_setGen (s := { s with heap := _ }) hR.bare rfl)
end
def finU : List W → Mem → R W := fun ws M => match allIw ws with
  | some ns => .ok (.d (.int ns.sum)) M
  | none => .bot
noncomputable def dSumG (P : Addr) (ti : DI) (tg : Tg) (c : DT) (te : DE) (vs : List Nat) : DE := fun ρ M => (dGc P ti tg c te vs ρ M).bind finU
section
variable {X : Cx} {E : XK} {tgE elt iter : Expr} {ifs : List Expr} {scope : Scope} {own : List (Str × Nat)} {vs : List Nat} {gpos pos p : Pos} {ti : DI} {tg : Tg} {tt : DT} {te : DE} {c P : Addr} {lv : Nat}
theorem q_sumG (hc : X.calm = true) (hN : X.N.Nodup) (hgd : X.A.guards = some []) (hr : Room (lv + 1) X.A) (hg : Gl X "sum") (hm : X.mg "sum" = none) (TB : GxR.TabB X.base X.mg c P) (hcode : X.env.code = .ref c) (hi : QI X E tgE iter ti) (ok : BlkOk X.N X.env.scope scope own) (S : GScp scope) (hb : GBody X lv scope tgE ifs elt tg tt te)
    (hvs : own.map (·.2) = vs) (hsl : ∀ i ∈ tg.slots, i ∈ vs) (hfold : ∀ v, genFold iter X.env v = pure v := by intro _; rfl)
    (he : starEach [.GeneratorExp elt [⟨tgE, iter, ifs, 0⟩] scope gpos] X.env = (false, eval (.GeneratorExp elt [⟨tgE, iter, ifs, 0⟩] scope gpos) X.env) :: starEach [] X.env := by rfl) :
    QE X E (.Call (.Name "sum" p) [.GeneratorExp elt [⟨tgE, iter, ifs, 0⟩] scope gpos] [] pos) (dSumG P ti tg tt te vs) := by
  subst hvs
  refine ⟨fun pins s σ H Q I h => ?_⟩
  obtain ⟨m, z, ρ, M, hs, hm', hp⟩ := h
  refine wpAny_Call_Name_kw (ld_blt I hg hm (show bootBuiltins "sum" = some (.builtin "sum") by decide +kernel) ?_ (by decide) (by decide))
  refine PyProof.Rows.callWith_builtin1 ?_ he (by rfl)
  rw [he]
  show wpAny _ _ (spliced ((false, eval (.GeneratorExp elt [⟨tgE, iter, ifs, 0⟩] scope gpos) X.env) :: backTo pos (starEach [] X.env))) _ _ s
  refine Calls.spliced_cons (gen_eval (stop := fun _ => false) (fin := fun p M' => if p.2 = true then .bot else finU p.1 M') hc hN hgd hr TB hcode hi ok S hb hsl hfold I ⟨m, z, ρ, M, hs, hm', by rw [dGx_all]; exact hp⟩ fun z m1 H1 sc fp a g code ys early Mf s5 I5 hex hfp hR hfin => ?_)
  refine Calls.spliced_nil ?_
  cases early with
  | true => exact hfin.elim
  | false =>
    simp only [Bool.false_eq_true, if_false] at hfin
    unfold finU at hfin
    split at hfin
    · rename_i ns hd
      refine call_sum_gx hR hr.hd I5.ok.frames rfl rfl (Nat.le_refl _) (by have := hr.dp; omega) hd fun s' us m' H' t q1 q2 => ?_
      refine ⟨.int ns.sum, H', taken I5 hex q1, ⟨t, rfl⟩, ?_⟩
      exact Post.now (k := kE X.K z Q) (Post.mono q1.ext hfin) q2 (.int ns.sum) (.d (.int _))
    · exact hfin.elim
end
end By
namespace By
open PySem PySem.Spec PyProof.Rows L2
section
variable {M : Model} {A : Around} {E : Value → Shared → Prop} {s : Shared} {env : Env}
theorem callWith_type_kw {pos : Pos} {T : String} {e : Expr} {rest : List Expr} {kws : List Keyword} {Q : Value → Shared → Prop}
    (h : wpAny M A (spliced (backTo pos (starEach (e :: rest) env))) (fun vs s₁ => wpAny M A (evalAll ((backToKw pos (keywordEach kws env)).map (·.2)))
      (fun kvs s₂ => wpAny M A (call (.type T) vs (((backToKw pos (keywordEach kws env)).filterMap (·.1)).zip kvs)) Q E s₂) E s₁) E s)
    (he : backTo pos (starEach (e :: rest) env) = (false, eval e env) :: backTo pos (starEach rest env) := by rfl)
    (hplain : (backTo pos (starEach (e :: rest) env)).any (·.1) = false := by rfl)
    (hall : (backToKw pos (keywordEach kws env)).all (·.1.isSome) = true := by rfl)
    (hkw : (backToKw pos (keywordEach kws env)).any (·.1.isNone) = false := by rfl) :
    wpAny M A (callWith pos (.type T) [] (backTo pos (starEach (e :: rest) env)) (backToKw pos (keywordEach kws env))) Q E s := by
  have h2 : wpAny M A (evalArgs (.type T) true (backTo pos (starEach (e :: rest) env)) (backToKw pos (keywordEach kws env))) (fun a s₁ => wpAny M A (call (.type T) ([] ++ a.pos) a.kw) Q E s₁) E s := by
    rw [he] at h ⊢
    exact evalArgs_kwB hall h
  unfold callWith
  refine wpAny_bind (wpAny_holding (wpAny_mono h2 (fun a s₁ h₁ => wpAny_bind (wpAny_standAt ?_)) fun _ _ x => x))
  simp only [hplain, hkw, Bool.or_false]
  refine wpAny_bind (wpAny_pure ?_)
  exact wpAny_bind (wpAny_mono h₁ (fun r s₂ hr => wpAny_bind (wpAny_holding (wpAny_point (wpAny_pure hr)))) fun _ _ x => x)
end
/-- the list | tuple at a, each item in a new pair with its number from k -/
def IteS (K : PySem.W.Frag) (k : Int) (sq : Hp → List V → Prop) : It :=
  ⟨fun i H => ∃ (xs : List V) (x : V), sq H xs ∧ xs[i]? = some x, fun i H v H' => ∃ T x, v = .ref T ∧ H T = none ∧ H' = upd H T (.tup [.int (k + (i : Nat)), x]) ∧ ∀ xs, sq H xs → xs[i]? = some x, fun i H => ∃ xs : List V, sq H xs ∧ xs.length ≤ i⟩
theorem turn_enumTS {P : Program} {w : World} {K : PySem.W.Frag} {elts : List Expr} {kk : Nat} {tpos : Pos} (k : Int) (a e it : Addr) :
    Turn P w K (.Tuple elts kk tpos) (IteS K k fun H xs => SqT K H a xs) [e, it] e (fun i h => (∃ old, IsEnum h e it (k + ((i : Nat) : Int)) old) ∧ h.IsTupleIter it a i ∧ e ≠ it) where
  mem := List.mem_cons_self
  obj := fun i h ⟨⟨old, he⟩, ⟨o, ho, hc, hd⟩, _⟩ b hb => by
    rcases List.mem_cons.mp hb with rfl | hb
    · exact ⟨_, he, fun v q => nomatch q⟩
    · rw [List.mem_singleton.mp hb]
      exact ⟨o, ho, fun v q => by rw [hd] at q; cases q⟩
  keep := fun i h h' ⟨⟨old, he⟩, hi, hne⟩ k => ⟨⟨old, k e List.mem_cons_self _ he⟩, hi.at fun o q => k it (by simp) o q, hne⟩
  item := by
    rintro X rfl rfl rfl hc i pins s σ H E I hf ⟨⟨old, he⟩, hit, hne⟩ ⟨xs, x, hq, hx⟩
    obtain ⟨its, rv, p, hz⟩ := I.tuple hq
    obtain ⟨u, hu, ru⟩ := rv.get hx
    have hp : s.heap.IsTuple a its.toArray := p
    have na : a ≠ it := fun q => by
      obtain ⟨o, h1, h2, _⟩ := hit
      obtain ⟨o2, h3, h4, _⟩ := hp
      rw [q, h1] at h3
      cases h3
      exact absurd (h2.symm.trans h4) (by simp)
    have ne : e ∉ [it, a] := fun q => by
      rcases List.mem_cons.mp q with q | q
      · exact hne q
      · obtain ⟨o2, h3, h4, _⟩ := hp
        rw [← List.mem_singleton.mp q, he] at h3
        cases h3
        exact absurd h4 (by simp)
    have hi : i < its.toArray.size := by
      have := (List.getElem?_eq_some_iff.mp hu).1
      simpa using this
    refine wpAny_pyNext_enum_itemC (Draws.tuple (A := X.A.in1) (I.ok.hd hc) it a na its.toArray) he ⟨hit, hp⟩ hi hne ne fun y h' tk hy ho hst hT hsz hk => ?_
    have ey : y = u := by
      have h2 : its[i]? = some y := by simpa using hy
      rw [hu] at h2
      cases h2
      rfl
    subst ey
    refine ⟨_, rfl, wpAny_letOwnedTupleGo_enum (s := { s with heap := h', toks := tk + 1 }) ho fun h'' he' sb => ?_⟩
    have hel : e < s.heap.objs.size := Heap.lt_size he
    have hil : it < s.heap.objs.size := by
      obtain ⟨_, q, _⟩ := hit
      exact Heap.lt_size q
    have hT2 := (sb.2 _ (Nat.ne_of_gt hel)).trans hT
    have new : ObjOk X.prog X.w (upd H s.heap.objs.size (.tup [.int (k + (i : Nat)), x])) h'' s.heap.objs.size (.tup [.int (k + (i : Nat)), x]) :=
      ⟨by show 2 ≤ sizeLine; decide, _, .cons ⟨_, rfl⟩ (.cons ru .nil), ⟨_, hT2, rfl, _, rfl⟩⟩
    have I1 : Inv X pins σ (upd H s.heap.objs.size (.tup [.int (k + (i : Nat)), x])) { s with heap := h'', toks := tk + 1 } :=
      I.turnedNew (ch := [e, it]) (fun b ob hb q => (sb.2 b (fun z => hb (by simp [z]))).trans (hk b ob (fun z => hb (by simp [z])) (fun z => hb (by simp [z])) q)) hf (Nat.le_refl _) new
    refine ⟨.ref s.heap.objs.size, _, I1, rfl, ⟨_, x, rfl, I.hok.fresh (Nat.le_refl _), rfl, fun ys hy => by rw [I.tuple_inj hy hq]; exact hx⟩, ⟨⟨y, by rw [show k + ((i + 1 : Nat) : Int) = k + (i : Int) + 1 by omega]; exact he'⟩, hst.1.at fun o q => (sb.2 it (Ne.symm hne)).trans q, hne⟩, fun b hb => ?_⟩
    have hb' : b < s.heap.objs.size := by
      rcases List.mem_cons.mp hb with z | z
      · rw [z]; exact hel
      · rw [List.mem_singleton.mp z]; exact hil
    rw [upd_ne (Nat.ne_of_lt hb')]
    exact (hf b hb).1
  done := by
    rintro X rfl rfl rfl hc i pins s σ H E I hf ⟨⟨old, he⟩, hit, hne⟩ ⟨xs, hq, hx⟩
    obtain ⟨its, rv, p, hz⟩ := I.tuple hq
    have hp : s.heap.IsTuple a its.toArray := p
    have hend : its.toArray[i]? = none := by
      have := rv.length
      simp
      omega
    have D : Draws X.prog X.w X.A.in1 it [it, a] i (fun _ _ => False) (fun j h => (h.IsTupleIter it a j ∧ h.IsTuple a its.toArray) ∧ j = i) :=
      { live := fun _ _ st => let ⟨o, ho, _⟩ := st.1.1; ⟨o, ho⟩
        frame := fun _ _ _ st hk => ⟨⟨st.1.1.at fun o e => hk it (by simp) o e, st.1.2.at fun o e => hk a (by simp) o e⟩, st.2⟩
        item := fun j s Q E hj st hQ => absurd st.2 (Nat.ne_of_lt hj)
        done := fun s Q E st hE => wpAny_nextOf_tuple_end (show X.A.in1.handled = none from I.ok.hd hc) st.1.1 st.1.2 hend hE }
    refine wpAny_pyNext_enum_endD D he ⟨⟨hit, hp⟩, rfl⟩ fun h' hx => ?_
    obtain ⟨f0, f1, f2, f3, f4, f5⟩ := hf it (by simp)
    exact ⟨rfl, I.turned (t' := s.toks) (fun b o hb q => hx b o hb q) f0 f1 f3 f4 f5⟩
  self := fun A i s Q E ⟨⟨_, he⟩, _⟩ h => wpAny_pyIter_enum he h
theorem turn_enumLS {P : Program} {w : World} {K : PySem.W.Frag} {elts : List Expr} {kk : Nat} {tpos : Pos} (k : Int) (a e it : Addr) :
    Turn P w K (.Tuple elts kk tpos) (IteS K k fun H xs => SqL K H a xs) [e, it] e (fun i h => (∃ old, IsEnum h e it (k + ((i : Nat) : Int)) old) ∧ h.IsListIter it a i ∧ e ≠ it) where
  mem := List.mem_cons_self
  obj := fun i h ⟨⟨old, he⟩, ⟨o, ho, hc, hd⟩, _⟩ b hb => by
    rcases List.mem_cons.mp hb with rfl | hb
    · exact ⟨_, he, fun v q => nomatch q⟩
    · rw [List.mem_singleton.mp hb]
      exact ⟨o, ho, fun v q => by rw [hd] at q; cases q⟩
  keep := fun i h h' ⟨⟨old, he⟩, hi, hne⟩ k => ⟨⟨old, k e List.mem_cons_self _ he⟩, hi.at fun o q => k it (by simp) o q, hne⟩
  item := by
    rintro X rfl rfl rfl hc i pins s σ H E I hf ⟨⟨old, he⟩, hit, hne⟩ ⟨xs, x, hq, hx⟩
    obtain ⟨its, rv, p, hz⟩ := I.list hq
    obtain ⟨u, hu, ru⟩ := rv.get hx
    have hp : s.heap.IsList a its.toArray := p.isList
    have na : a ≠ it := fun q => by
      obtain ⟨o, h1, h2, _⟩ := hit
      obtain ⟨o2, h3, h4, _⟩ := hp
      rw [q, h1] at h3
      cases h3
      exact absurd (h2.symm.trans h4) (by simp)
    have ne : e ∉ [it, a] := fun q => by
      rcases List.mem_cons.mp q with q | q
      · exact hne q
      · obtain ⟨o2, h3, h4, _⟩ := hp
        rw [← List.mem_singleton.mp q, he] at h3
        cases h3
        exact absurd h4 (by simp)
    have hi : i < its.toArray.size := by
      have := (List.getElem?_eq_some_iff.mp hu).1
      simpa using this
    refine wpAny_pyNext_enum_itemC (Draws.list (A := X.A.in1) (I.ok.hd hc) it a na its.toArray) he ⟨hit, hp⟩ hi hne ne fun y h' tk hy ho hst hT hsz hk => ?_
    have ey : y = u := by
      have h2 : its[i]? = some y := by simpa using hy
      rw [hu] at h2
      cases h2
      rfl
    subst ey
    refine ⟨_, rfl, wpAny_letOwnedTupleGo_enum (s := { s with heap := h', toks := tk + 1 }) ho fun h'' he' sb => ?_⟩
    have hel : e < s.heap.objs.size := Heap.lt_size he
    have hil : it < s.heap.objs.size := by
      obtain ⟨_, q, _⟩ := hit
      exact Heap.lt_size q
    have hT2 := (sb.2 _ (Nat.ne_of_gt hel)).trans hT
    have new : ObjOk X.prog X.w (upd H s.heap.objs.size (.tup [.int (k + (i : Nat)), x])) h'' s.heap.objs.size (.tup [.int (k + (i : Nat)), x]) :=
      ⟨by show 2 ≤ sizeLine; decide, _, .cons ⟨_, rfl⟩ (.cons ru .nil), ⟨_, hT2, rfl, _, rfl⟩⟩
    have I1 : Inv X pins σ (upd H s.heap.objs.size (.tup [.int (k + (i : Nat)), x])) { s with heap := h'', toks := tk + 1 } :=
      I.turnedNew (ch := [e, it]) (fun b ob hb q => (sb.2 b (fun z => hb (by simp [z]))).trans (hk b ob (fun z => hb (by simp [z])) (fun z => hb (by simp [z])) q)) hf (Nat.le_refl _) new
    refine ⟨.ref s.heap.objs.size, _, I1, rfl, ⟨_, x, rfl, I.hok.fresh (Nat.le_refl _), rfl, fun ys hy => by rw [I.list_inj hy hq]; exact hx⟩, ⟨⟨y, by rw [show k + ((i + 1 : Nat) : Int) = k + (i : Int) + 1 by omega]; exact he'⟩, hst.1.at fun o q => (sb.2 it (Ne.symm hne)).trans q, hne⟩, fun b hb => ?_⟩
    have hb' : b < s.heap.objs.size := by
      rcases List.mem_cons.mp hb with z | z
      · rw [z]; exact hel
      · rw [List.mem_singleton.mp z]; exact hil
    rw [upd_ne (Nat.ne_of_lt hb')]
    exact (hf b hb).1
  done := by
    rintro X rfl rfl rfl hc i pins s σ H E I hf ⟨⟨old, he⟩, hit, hne⟩ ⟨xs, hq, hx⟩
    obtain ⟨its, rv, p, hz⟩ := I.list hq
    have hp : s.heap.IsList a its.toArray := p.isList
    have hend : its.toArray[i]? = none := by
      have := rv.length
      simp
      omega
    have D : Draws X.prog X.w X.A.in1 it [it, a] i (fun _ _ => False) (fun j h => (h.IsListIter it a j ∧ h.IsList a its.toArray) ∧ j = i) :=
      { live := fun _ _ st => let ⟨o, ho, _⟩ := st.1.1; ⟨o, ho⟩
        frame := fun _ _ _ st hk => ⟨⟨st.1.1.at fun o e => hk it (by simp) o e, st.1.2.at fun o e => hk a (by simp) o e⟩, st.2⟩
        item := fun j s Q E hj st hQ => absurd st.2 (Nat.ne_of_lt hj)
        done := fun s Q E st hE => wpAny_nextOf_list_end (show X.A.in1.handled = none from I.ok.hd hc) st.1.1 st.1.2 hend hE }
    refine wpAny_pyNext_enum_endD D he ⟨⟨hit, hp⟩, rfl⟩ fun h' hx => ?_
    obtain ⟨f0, f1, f2, f3, f4, f5⟩ := hf it (by simp)
    exact ⟨rfl, I.turned (t' := s.toks) (fun b o hb q => hx b o hb q) f0 f1 f3 f4 f5⟩
  self := fun A i s Q E ⟨⟨_, he⟩, _⟩ h => wpAny_pyIter_enum he h
def iEnumS (K : PySem.W.Frag) (ta tk : TA) : TI := fun σ H R => ta σ H fun vs H1 => tk σ H1 fun zs H2 => ∃ a xs k, vs = [.ref a] ∧ zs = [.int k] ∧ -(2 ^ 63) ≤ k ∧ k < 2 ^ 63 ∧
  ((SqT K H2 a xs ∧ R (IteS K k fun H xs => SqT K H a xs) H2) ∨ (SqL K H2 a xs ∧ R (IteS K k fun H xs => SqL K H a xs) H2))
section
variable {X : Cx} {E : XK} {e st : Expr} {ta tk : TA} {te ts : DE} {p pos tpos kpos : Pos} {elts : List Expr} {kk : Nat}
theorem pi_enumS (hg : Gl X "enumerate") (hm : X.mg "enumerate" = none) (ha : PA X [e] ta) (hk : PK X [⟨some "start", st, kpos⟩] tk)
    (he : backTo pos (starEach [e] X.env) = (false, eval e X.env) :: backTo pos (starEach [] X.env) := by rfl) (hpl : (backTo pos (starEach [e] X.env)).any (·.1) = false := by rfl)
    (hall : (backToKw pos (keywordEach [⟨some "start", st, kpos⟩] X.env)).all (·.1.isSome) = true := by rfl) (hnone : (backToKw pos (keywordEach [⟨some "start", st, kpos⟩] X.env)).any (·.1.isNone) = false := by rfl) (hks : (backToKw pos (keywordEach [⟨some "start", st, kpos⟩] X.env)).filterMap (·.1) = [Str.ofString "start"] := by rfl) :
    PI X (.Tuple elts kk tpos) (.Call (.Name "enumerate" p) [e] [⟨some "start", st, kpos⟩] pos) (iEnumS X.K ta tk) := by
  refine ⟨fun pins s σ H R I h => wpAny_Call_Name_kw (ld_blt I hg hm boot_enumerate ?_ (by decide) (by decide))⟩
  refine callWith_type_kw (thn (ha.run pos pins s σ H _ I h) fun us s1 ⟨vs, H1, I1, r1, q1⟩ => thn (hk.run pos pins s1 σ H1 _ I1 q1) fun ws s2 ⟨zs, H2, I2, r2, q2⟩ => ?_) he hpl hall hnone
  rw [hks]
  obtain ⟨a, xs, k, rfl, rfl, k0, k1, q⟩ := q2
  cases r1 with
  | cons r rr =>
  cases rr
  cases r
  cases r2 with
  | cons r rr =>
  cases rr
  obtain ⟨t, rfl⟩ := r
  have fresh : ∀ {h' : Heap} {H' : Hp}, (∀ b o, s2.heap.get? b = some o → h'.get? b = some o) → Inv X pins σ H2 { s2 with heap := h' } := fun {h' H'} hk => I2.kept (t' := s2.toks) hk
  have fps : ∀ b ∈ [s2.heap.objs.size + 1, s2.heap.objs.size], FpOk X pins H2 b := fun b hb => by
    have hle : s2.heap.objs.size ≤ b := by
      rcases List.mem_cons.mp hb with z | z
      · rw [z]
        exact Nat.le_add_right _ _
      · rw [List.mem_singleton.mp z]
        exact Nat.le_refl _
    exact I2.fpOk hle (I2.hok.fresh hle)
  rcases q with ⟨hq, q⟩ | ⟨hq, q⟩
  · obtain ⟨its, rv, pt, hz⟩ := I2.tuple hq
    have hp : s2.heap.IsTuple a its.toArray := pt
    refine enum_begins_start (begins_tuple a its.toArray) hp k0 k1 fun h' he hit hsz hk => wpAny_pyIter_enum he ?_
    exact ⟨s2.heap.objs.size + 1, [s2.heap.objs.size + 1, s2.heap.objs.size], _, _, H2, rfl, I2.kept (t' := s2.toks) hk, turn_enumTS k a (s2.heap.objs.size + 1) s2.heap.objs.size, ⟨⟨.none, by simpa using he⟩, ⟨_, hit, rfl, rfl⟩, Nat.succ_ne_self _⟩, fps, q⟩
  · obtain ⟨its, rv, pt, hz⟩ := I2.list hq
    have hp : s2.heap.IsList a its.toArray := pt.isList
    refine enum_begins_start (begins_list a its.toArray) hp k0 k1 fun h' he hit hsz hk => wpAny_pyIter_enum he ?_
    exact ⟨s2.heap.objs.size + 1, [s2.heap.objs.size + 1, s2.heap.objs.size], _, _, H2, rfl, I2.kept (t' := s2.toks) hk, turn_enumLS k a (s2.heap.objs.size + 1) s2.heap.objs.size, ⟨⟨.none, by simpa using he⟩, ⟨_, hit, rfl, rfl⟩, Nat.succ_ne_self _⟩, fps, q⟩
def enumDS (k : Int) (ds : List PyData) : List W := ds.mapIdx fun i d => W.d (.tuple [.int (k + (i : Nat)), d])
def isD : W → Bool
  | .d _ => true
  | _ => false
def dEnumS (te ts : DE) : DI := fun ρ M => (te ρ M).bind fun w M1 => (ts ρ M1).bind fun u M2 => match sqD M2 w, u with
  | some ds, .d (.int k) => if -1000000 ≤ k ∧ k ≤ 1000000 ∧ isD w = true then .ok (enumDS k ds, none) M2 else .bot
  | _, _ => .bot
theorem enumS_go {K : PySem.W.Frag} {m z : List Addr} {H : Hp} {M : Mem} {k : Int} {sq : Hp → List V → Prop} {xs : List V} {ds : List PyData} {i : Nat} (hm : RM K m z H M) (hq : sq H xs) (hx : RDs K m z H xs ds) :
    (∀ w, (enumDS k ds)[i]? = some w → (IteS K k sq).go i H ∧ ∀ x H', (IteS K k sq).yld i H x H' → Ext m H m H' ∧ RM K m z H' M ∧ (∀ a o, H a = some o → H' a = some o) ∧ RW K m z H' x w) ∧ ((enumDS k ds).length ≤ i → (IteS K k sq).stop i H) := by
  refine ⟨fun w hw => ?_, fun hl => ⟨xs, hq, by rw [hx.length]; unfold enumDS at hl; rw [List.length_mapIdx] at hl; exact hl⟩⟩
  unfold enumDS at hw
  rw [List.getElem?_mapIdx] at hw
  cases q : ds[i]? with
  | none =>
    rw [q] at hw
    cases hw
  | some d =>
    rw [q] at hw
    cases hw
    obtain ⟨v, h3, h4⟩ := hx.get q
    refine ⟨⟨xs, v, hq, h3⟩, fun x H' hy => ?_⟩
    obtain ⟨T, y, rfl, hT, rfl, hy⟩ := hy
    have h1 := hy xs hq
    rw [h1] at h3
    cases h3
    have e : Ext m H m (upd H T (.tup [.int (k + (i : Nat)), v])) := Ext.new hT
    exact ⟨e, hm.new hT, fun a o h => by rw [upd_ne (ne_of_none h hT)]; exact h, .d (.tup (.inl ⟨.inl upd_same, hm.fresh_notin hT, hm.fresh_notz hT⟩) (.cons (.int _) (.cons (h4.mono e) .nil)))⟩
theorem q_enumS (hg : Gl X "enumerate") (hm : X.mg "enumerate" = none) (he : QE X E e te) (hst : QE X E st ts) (hs : starEach [e] X.env = (false, eval e X.env) :: starEach [] X.env := by rfl)
    (hb : backTo pos (starEach [e] X.env) = (false, eval e X.env) :: backTo pos (starEach [] X.env) := by rfl) (hpl : (backTo pos (starEach [e] X.env)).any (·.1) = false := by rfl)
    (hall : (backToKw pos (keywordEach [⟨some "start", st, kpos⟩] X.env)).all (·.1.isSome) = true := by rfl) (hnone : (backToKw pos (keywordEach [⟨some "start", st, kpos⟩] X.env)).any (·.1.isNone) = false := by rfl) (hks : (backToKw pos (keywordEach [⟨some "start", st, kpos⟩] X.env)).filterMap (·.1) = [Str.ofString "start"] := by rfl) :
    QI X E (.Tuple elts kk tpos) (.Call (.Name "enumerate" p) [e] [⟨some "start", st, kpos⟩] pos) (dEnumS te ts) := by
  refine PI.imp (pi_enumS hg hm (pa_cons he pa_nil hs) (pk_cons hst pk_nil) hb hpl hall hnone hks) fun σ H R ⟨m, z, ρ, M, hs, hm, hp⟩ => ⟨m, z, ρ, M, hs, hm, (Post.unbind hp).imp fun w M1 m1 H1 hr1 e1 hm1 hp1 v rv => ⟨m1, z, ρ, M1, hs.mono e1, hm1, (Post.unbind hp1).imp fun u M2 m2 H2 hr2 e2 hm2 hp2 y ry => ?_⟩⟩
  clear hr1 hr2
  split at hp2
  · rename_i ds k hd
    split at hp2
    · rename_i hk
      obtain ⟨h1, h2, h3⟩ := hk
      cases w with
      | r _ => cases h3
      | p _ _ => cases h3
      | d x =>
      cases ry with
      | d ry =>
      cases ry
      have rv2 := rv.mono e2
      cases rv2 with
      | d rv2 =>
      unfold sqD rd at hd
      cases rv2 with
      | lst hl hx =>
        cases hd
        rename_i a xs
        refine ⟨a, xs, k, rfl, rfl, by omega, by omega, .inr ⟨hl.sq, ?_⟩⟩
        refine Post.now (k := kI X.K z R) hp2 hm2 (fun j _ hj => by cases hj) _ ?_
        intro i m3 z3 H3 M3 e3 hz3 hm3 _
        have a1 : LvL X.K m3 z3 H3 a xs := hl.go (extGo2 e3 hz3)
        have b1 := RDs.go (extGo2 e3 hz3) _ _ hx
        exact enumS_go hm3 a1.sq b1
      | tup hl hx =>
        cases hd
        rename_i a xs
        refine ⟨a, xs, k, rfl, rfl, by omega, by omega, .inl ⟨hl.sq, ?_⟩⟩
        refine Post.now (k := kI X.K z R) hp2 hm2 (fun j _ hj => by cases hj) _ ?_
        intro i m3 z3 H3 M3 e3 hz3 hm3 _
        have a1 : LvT X.K m3 z3 H3 a xs := hl.go (extGo2 e3 hz3)
        have b1 := RDs.go (extGo2 e3 hz3) _ _ hx
        exact enumS_go hm3 a1.sq b1
      | _ => cases hd
    · exact hp2.elim
  · exact hp2.elim
end
end By
namespace By
open PySem PySem.Spec PyProof.Rows L2 PySem.Calls
theorem len_4 {a b c d : Str} (ha : a.length ≤ 1000) (hb : b.length ≤ 10000) (hc : c.length ≤ 1000) (hd : d.length ≤ 10000) : (Str.empty ++ a).length ≤ sizeLine ∧ (Str.empty ++ a ++ b).length ≤ sizeLine ∧ (Str.empty ++ a ++ b ++ c).length ≤ sizeLine ∧ (Str.empty ++ a ++ b ++ c ++ d).length ≤ sizeLine := by
  have e : Str.empty.length = 0 := rfl
  have z : (22000 : Nat) ≤ sizeLine := by rw [sizeLine_eq]; decide
  refine ⟨?_, ?_, ?_, ?_⟩ <;> (simp only [strLen_append, e]; omega)
/-- a number and a text, small enough to be told -/
def okNT : PyData → PyData → Bool
  | .int i, .str y => decide (i.natAbs.log2 < 1920) && decide (y.length ≤ 1000)
  | _, _ => false
section
variable {X : Cx} {e : Expr} {es : List Expr} {ta : TA} {x : Str} {C fI cc cda : Addr} {p pos : Pos} {name qual self v1 v2 f1 f2 : Str} {params : Arguments} {body : List Stmt} {dV kV doc pm ct : Value} {an : Option Addr} {sc : Scope}
end
end By
namespace By
open PySem PySem.Spec PyProof.Rows L2
def dTryF (C : Addr) (fld : Str) (tc : DE) : DS := fun ρ M => match tc ρ M with
  | .ok _ M1 => .ok (.nx ρ) M1
  | .ex e M1 => if e.cls = .ref C then (match lookD fld e.fs with
    | some d => .ok (.rt (.d d)) M1
    | none => .bot) else .bot
  | .bot => .bot
section
variable {X : Cx} {E : XK} {C : Addr} {fld x n : Str} {e : Expr} {tc : DE} {i : Nat} {p1 p2 p3 p4 p5 p6 pos : Pos}
end
/-- raise C(a, b) -/
def dRaise2 (ok : PyData → PyData → Bool) (C : Addr) (f1 f2 : Str) (ta tb : DE) : DS := fun ρ M => (ta ρ M).bind fun w M1 => (tb ρ M1).bind fun u M2 => match w, u with
  | .d d, .d d2 => if ok d d2 = true then .ex ⟨.ref C, [(f2, d2), (f1, d)]⟩ M2 else .bot
  | _, _ => .bot
section
variable {X : Cx} {E : XK} {C : Addr} {f1 f2 x : Str} {a b : Expr} {ta tb : DE} {p pos pos2 : Pos}
end
def dFs3 (t1 t2 : Str) (te : DE) : DE := fun ρ M => (te ρ M).bind fun w M1 => match w with
  | .d (.int i) => if i.natAbs.log2 < 1920 then .ok (.d (.str (Str.empty ++ t1 ++ Str.ofString (toString i) ++ t2))) M1 else .bot
  | _ => .bot
section
variable {X : Cx} {E : XK} {e : Expr} {te : DE} {tt : TE} {p1 p2 p3 pos : Pos} {j1 j2 : Nat} {t1 t2 : Str}
def tFmtI (te : TE) : TE := fun σ H Q => te σ H fun x H1 => ∃ i : Int, x = .int i ∧ i.natAbs.log2 < 1920 ∧ Q (.str (Str.ofString (toString i))) H1
end
end By
namespace By
open PySem PySem.Spec PyProof.Rows L2
section
variable {X : Cx} {e : Expr} {es : List Expr} {t : TA} {p pos : Pos} {k : Nat} {f : Addr} {fd : FuncData} {ps : List Str} {x : Str} {Es : L2.St → XK} {F : FD}
end
def kTryT (C : Addr) (fld : Str) (i : Nat) (te : DE) (ρ : Rho) : R W → R Out
  | .ok _ M2 => .ok (.rt (.d (.bool false))) M2
  | .ex e M2 => if e.cls = .ref C then (match lookD fld e.fs with
    | some d => (noEx (te (ρ.set i none) M2)).bind fun w M3 => (noEx (fEq true (.d d) w M3)).bind fun b M4 => match b with
      | .d (.bool true) => .ok (.rt (.d (.bool false))) M4
      | .d (.bool false) => .ok (.nx (ρ.set i none)) M4
      | _ => .bot
    | none => .bot) else .bot
  | .bot => .bot
def dTryT (C : Addr) (fld : Str) (i : Nat) (F : FD) (t : DA) (te : DE) : DS := fun ρ M => (noEx (t ρ M)).bind fun ws M1 => kTryT C fld i te ρ (F ws M1)
section
variable {X : Cx} {E : XK} {C : Addr} {fld x n x0 : Str} {a1 e2 : Expr} {es : List Expr} {t : DA} {te : DE} {i j0 j1 : Nat} {p pos0 p1 p2 p3 p4 p5 p6 p7 p8 q0 q1 q2 q3 pos : Pos} {k : Nat} {f : Addr} {fd : FuncData} {ps : List Str} {F : FD}
end
end By
namespace By
open PySem PySem.Spec PyProof.Rows L2
def gFld (K : PySem.W.Frag) (to : TE) (f : Str) : TG := fun y σ H Q => to σ H fun x H2 => ∃ a C dx fs, x = .ref a ∧ H2 a = some (.ins C dx fs) ∧ Cls K C ∧ NoAttr K C f ∧ fs.length < 1000 ∧ Q σ (upd H2 a (.ins C dx (putF f y fs)))
section
variable {X : Cx} {E : XK} {o e : Expr} {f : Str} {pos : Pos} {to : TE}
/-- a, b, o.f = a tuple of three -/
def kSetTF (i j : Nat) (C : Addr) (f : Str) (to : DE) (ρ : Rho) : W → Mem → R Out := fun w M1 => match w with
  | .d (.tuple [a, b, c]) => (to ((ρ.set i (some (.d a))).set j (some (.d b))) M1).bind fun u M2 => match fSetF C f M2 u (.d c) with
    | some M3 => .ok (.nx ((ρ.set i (some (.d a))).set j (some (.d b)))) M3
    | none => .bot
  | _ => .bot
def dSetTF (i j : Nat) (C : Addr) (f : Str) (to te : DE) : DS := fun ρ M => (te ρ M).bind (kSetTF i j C f to ρ)
end
section
variable {X : Cx} {E : XK} {o e : Expr} {f x y : Str} {pos px py pf pt : Pos} {to te : DE} {C : Addr} {i j kt : Nat}
end
end By
namespace By
open PySem PySem.Spec PyProof.Rows L2
open Sem (wp)
section
variable {X : Cx} {pins : List (Addr × Obj)} {σ : L2.St} {H0 : Hp} {l1 l2 z TI TO i1 i2 S : Addr} {xs ys : List V}
/-- the pairs so far -/
def Prs (H0 H : Hp) (xs ys vs : List V) (k : Nat) : Prop := vs.length = k ∧ (∀ a o, H0 a = some o → H a = some o) ∧ ∀ j, j < k → ∃ T x y, vs[j]? = some (.ref T) ∧ H T = some (.tup [x, y]) ∧ H0 T = none ∧ xs[j]? = some x ∧ ys[j]? = some y
def ZSt (h : Heap) (z TI TO : Addr) : Prop := (IsZip h z TI TO .none ∧ ∃ x y, IsPair h TO x y) ∨ ∃ T f oT, IsZipHeld h z TI TO T f ∧ h.get? T = some oT
end
/-- list(zip(a, b)) of lists of data -/
def dListZip (ta tb : DE) : DE := fun ρ M => (ta ρ M).bind fun u M1 => (tb ρ M1).bind fun w M2 => match rd M2 u, rd M2 w with
  | some (.list ds), some (.list es) => .ok (.d (.list (List.zipWith (fun a b => PyData.tuple [a, b]) ds es))) M2
  | _, _ => .bot
section
variable {X : Cx} {E : XK} {a b : Expr} {ta tb : DE} {p p2 pos pos2 : Pos}
end
end By
namespace By
open PySem PySem.Spec PyProof.Rows L2
def fListM : FL := fun ws M => match ws with
  | [w] => match rd M w with
    | some (.list ds) => .ok (.r M.length) (M ++ [.lst (ds.map .d)])
    | some (.tuple ds) => .ok (.r M.length) (M ++ [.lst (ds.map .d)])
    | _ => .bot
  | _ => .bot
section
variable {X : Cx} {E : XK} {a : Expr} {ta : DE} {pos : Pos}
end
end By
namespace By
open PySem PySem.Spec PyProof.Rows L2
structure TabM (K : PySem.W.Frag) (ts : List Addr) (p : Addr × Addr) : Prop where
  hd : PySem.W.codeHdIn K p.1 p.2 = true
  no : K.lookup p.2 = none
  mem : p.2 ∈ ts
section
variable {P : Program} {w : World} {K : PySem.W.Frag} {mg mb : Str → Option Value} {k : Nat} {fa a : Addr} {fd : FuncData} {x : Str} {F : FD} {s : Shared} {vs : List Value} {ns : List Int} {cs : List (Addr × Addr)} {pt : Nat → Addr} {H : Hp} {q0 : Option Str}
end
end By
namespace By
open PySem PySem.Spec PyProof.Rows L2
section
variable {X : Cx} {E : XK} {pre sts : List Stmt} {t v : DS}
end
end By
namespace By
open PySem PySem.Spec PyProof.Rows L2
def isStrD : W → Option Bool
  | .d (.bool _) => some false
  | .d (.int _) => some false
  | .d .none => some false
  | .d (.str _) => some true
  | .d (.list _) => some false
  | .d (.tuple _) => some false
  | _ => none
theorem ty_list {K : PySem.W.Frag} {H : Hp} {a : Addr} {xs : List V} (h : SqL K H a xs) : TyX K H (.ref a) (.type "list") := by
  rcases h with h | ⟨o, _, _, e, c, _⟩
  · rcases h with h | ⟨o, h⟩
    · exact .base (.lst h)
    · exact .base (.frz h)
  · exact .kList e c
theorem ty_tuple {K : PySem.W.Frag} {H : Hp} {a : Addr} {xs : List V} (h : SqT K H a xs) : TyX K H (.ref a) (.type "tuple") := by
  rcases h with h | ⟨o, _, _, e, c, _⟩
  · rcases h with h | ⟨o, h⟩
    · exact .base (.tup h)
    · exact .fTuple h
  · exact .kTuple e c
def fIsStr : F1 := fun w M => match isStrD w with
  | some b => .ok (.d (.bool b)) M
  | none => .bot
def fMin2 : FL := fun ws M => match ws with
  | [.d (.int i), .d (.int j)] => .ok (.d (.int (if j < i then j else i))) M
  | _ => .bot
/-- the sign at a place of a text -/
def fIxS : F2 := fun u w M => match u, w with
  | .d (.str z), .d (.int i) => if z.length ≤ 1000000 then (match getI z.cps.toList i with
    | some c => .ok (.d (.str ⟨#[c]⟩)) M
    | none => .bot) else .bot
  | _, _ => .bot
def fInS : F2 := fun u w M => match u, w with
  | .d (.str x), .d (.str z) => match x.cps.toList with
    | [c] => .ok (.d (.bool (decide (c ∈ z.cps.toList)))) M
    | _ => .bot
  | _, _ => .bot
def fNotInS : F2 := fun u w M => match u, w with
  | .d (.str x), .d (.str z) => match x.cps.toList with
    | [c] => .ok (.d (.bool (!decide (c ∈ z.cps.toList)))) M
    | _ => .bot
  | _, _ => .bot
def fIntS : FL := fun ws M => match ws with
  | [.d (.str a)] => if a.length ≤ 640 then (match PySem.intText? a with
    | some n => .ok (.d (.int n)) M
    | none => .bot) else .bot
  | _ => .bot
def fOrd : FL := fun ws M => match ws with
  | [.d (.str x)] => if x.length = 1 then .ok (.d (.int (x.cps.getD 0 0 : Nat))) M else .bot
  | _ => .bot
def fLeS : F2 := fun u w M => match u, w with
  | .d (.str x), .d (.str y) => .ok (.d (.bool (!decide (y.cps.toList < x.cps.toList)))) M
  | _, _ => .bot
section
variable {X : Cx} {E : XK} {a b e tgE : Expr} {ta tb te : DE} {p p2 pos apos : Pos}
theorem pe_strTy (hg : Gl X "str") (hm : X.mg "str" = none) : PE X (.Name "str" p) (tC (.ty "str")) :=
  ⟨fun pins s σ H Q I h => ld_blt I hg hm PyProof.Rows.Boot.«str» ⟨.ty "str", H, I, rfl, h⟩ (by decide) (by decide)⟩
theorem q_isStr (hg : Gl X "isinstance") (hm : X.mg "isinstance" = none) (hgi : Gl X "str") (hmi : X.mg "str" = none) (ha : QE X E a ta) (h1 : starEach [a, .Name "str" p2] X.env = (false, eval a X.env) :: starEach [.Name "str" p2] X.env := by rfl)
    (h2 : starEach [.Name "str" p2] X.env = (false, eval (.Name "str" p2) X.env) :: starEach [] X.env := by rfl) : QE X E (.Call (.Name "isinstance" p) [a, .Name "str" p2] [] pos) (dUn fIsStr ta) := by
  have h := pe_callB (pos := pos) (p := p) call_isi hg hm (by decide +kernel) (pa_cons ha (pa_cons (pe_strTy (p := p2) hgi hmi) pa_nil h2) h1) (he := h1)
  refine PE.imp h fun σ H Q ⟨m, z, ρ, M, hs, hm, hp⟩ => ⟨m, z, ρ, M, hs, hm, (Post.unbind hp).imp fun w M1 m1 H1 _ e1 hm1 hp1 v rv => ?_⟩
  unfold fIsStr at hp1
  split at hp1
  · rename_i b hb
    have fin : Q (.bl b) H1 := Post.now (k := kE X.K z Q) hp1 hm1 _ (.d (.bl b))
    unfold isStrD at hb
    split at hb
    · cases hb
      cases rv with
      | d rv => cases rv; exact ⟨_, _, _, _, _, rfl, .ty "str", .base (.bl _), kit_ty (by decide +kernel), fin⟩
    · cases hb
      cases rv with
      | d rv => cases rv; exact ⟨_, _, _, _, _, rfl, .ty "str", .base (.int _), kit_ty (by decide +kernel), fin⟩
    · cases hb
      cases rv with
      | d rv => cases rv; exact ⟨_, _, _, _, _, rfl, .ty "str", .base .non, kit_ty (by decide +kernel), fin⟩
    · cases hb
      cases rv with
      | d rv => cases rv; exact ⟨_, _, _, _, _, rfl, .ty "str", .base (.str _), kit_ty (by decide +kernel), fin⟩
    · cases hb
      cases rv with
      | d rv =>
      cases rv with
      | lst hl _ => exact ⟨_, _, _, _, _, rfl, .ty "str", ty_list hl.sq, kit_ty (by decide +kernel), fin⟩
    · cases hb
      cases rv with
      | d rv =>
      cases rv with
      | tup hl _ => exact ⟨_, _, _, _, _, rfl, .ty "str", ty_tuple hl.sq, kit_ty (by decide +kernel), fin⟩
    · cases hb
  · exact hp1.elim
theorem q_min2 (hc : X.calm = true) (hg : Gl X "min") (hm : X.mg "min" = none) (ha : QE X E a ta) (hb : QE X E b tb) (he : starEach [a, b] X.env = (false, eval a X.env) :: starEach [b] X.env := by rfl) (hpl : (backTo pos (starEach [b] X.env)).any (·.1) = false := by rfl) (hs : starEach [b] X.env = (false, eval b X.env) :: starEach [] X.env := by rfl) :
    QE X E (.Call (.Name "min" p) [a, b] [] pos) (dFL fMin2 (dCons ta (dCons tb dNil))) := by
  refine q_callB (call_min2 hc) ?_ hg hm (by decide +kernel) (qa_cons ha (qa_cons hb qa_nil hs) he) (he := he) (hpl := hpl)
  intro m z H M xs us Q hm r hp
  unfold fMin2 at hp
  split at hp
  · cases r with
    | cons r1 r2 =>
    cases r2 with
    | cons r2 r3 =>
    cases r3
    cases r1 with
    | d r1 =>
    cases r1
    cases r2 with
    | d r2 =>
    cases r2
    exact ⟨_, _, rfl, Post.now (k := kE X.K z Q) hp hm _ (.d (.int _))⟩
  · exact hp.elim
theorem q_intS (hg : Gl X "int") (hm : X.mg "int" = none) (ha : QE X E a ta) (hs : starEach [a] X.env = (false, eval a X.env) :: starEach [] X.env := by rfl) : QE X E (.Call (.Name "int" p) [a] [] pos) (dFL fIntS (dCons ta dNil)) := by
  refine q_callTy call_int_str ?_ hg hm (by decide +kernel) (qa_cons ha qa_nil hs) (he := hs)
  intro m z H M xs us Q hm r hp
  unfold fIntS at hp
  split at hp
  · split at hp
    · rename_i hl
      split at hp
      · rename_i n hn
        cases r with
        | cons r1 r2 =>
        cases r2
        cases r1 with
        | d r1 =>
        cases r1
        exact ⟨_, n, rfl, hn, hl, Post.now (k := kE X.K z Q) hp hm _ (.d (.int _))⟩
      · exact hp.elim
    · exact hp.elim
  · exact hp.elim
theorem str_one {x : Str} {c : Nat} (h : x.cps.toList = [c]) : x = ⟨#[c]⟩ := by
  cases x with
  | mk a =>
    have : a = #[c] := by
      rw [← Array.toList_inj]
      exact h
    rw [this]
def rInC : R2 := fun x y H Q => ∃ (c : Nat) (z : Str), x = .str ⟨#[c]⟩ ∧ y = .str z ∧ Q (.bl (decide (c ∈ z.cps.toList))) H
theorem b2_InS {K : PySem.W.Frag} : B2 K E rInC fInS := by
  intro m z H M x y u w Q hm ru rw hp
  unfold fInS at hp
  split at hp
  · split at hp
    · rename_i c hc
      cases ru with
      | d ru =>
      cases ru
      cases rw with
      | d rw =>
      cases rw
      exact ⟨c, _, congrArg V.str (str_one hc), rfl, Post.now (k := kE K z Q) hp hm _ (.d (.bl _))⟩
    · exact hp.elim
  · exact hp.elim
def rNotInS : R2 := fun x y H Q => ∃ (c : Nat) (z : Str), x = .str ⟨#[c]⟩ ∧ y = .str z ∧ Q (.bl (!decide (c ∈ z.cps.toList))) H
def rLeS : R2 := fun x y H Q => ∃ i j, x = .str i ∧ y = .str j ∧ Q (.bl (!decide (j.cps.toList < i.cps.toList))) H
theorem b2_IxS {K : PySem.W.Frag} : B2 K E (rIx K) fIxS := by
  intro m z H M x y u w Q hm ru rw hp
  unfold fIxS at hp
  split at hp
  · split at hp
    · rename_i hl
      split at hp
      · rename_i c hc
        cases ru with
        | d ru =>
        cases ru
        cases rw with
        | d rw =>
        cases rw
        exact .inr (.inr ⟨_, _, c, rfl, rfl, s1000000 hl, getI_at hc, Post.now (k := kE K z Q) hp hm _ (.d (.str _))⟩)
      · exact hp.elim
    · exact hp.elim
  · exact hp.elim
theorem q_ixS (ha : QE X E a ta) (hb : QE X E b tb) (hs : PlainIx b := by exact fun _ _ => rfl) : QE X E (.Subscript a b pos) (dBin fIxS ta tb) := PE.imp (pe_ix ix_seq ha hb hs) (tOp_of b2_IxS)
theorem q_inS (ha : QE X E a ta) (hb : QE X E b tb) (hm : behindInMarks .In b = false := by rfl) : QE X E (.Compare a [.In] [b] pos) (dBin fInS ta tb) := q_cmp op_in_sign hm b2_InS ha hb
def dTxtI (te : DE) : DI := fun ρ M => (te ρ M).bind fun w M1 => match w with
  | .d (.str x) => .ok (x.cps.toList.map fun c => W.d (.str ⟨#[c]⟩), none) M1
  | _ => .bot
theorem its_ok {K : PySem.W.Frag} {m z : List Addr} {H : Hp} (x : Str) : ItOk K z (Its x) (x.cps.toList.map fun c => W.d (.str ⟨#[c]⟩)) none m H := by
  intro i m2 z2 H2 M2 e2 _ hm2 _
  refine ⟨fun w hw => ?_, fun h => by rw [List.length_map, Array.length_toList] at h; exact h⟩
  rw [List.getElem?_map] at hw
  cases q : x.cps.toList[i]? with
  | none => rw [q] at hw; cases hw
  | some c =>
    rw [q] at hw
    cases hw
    have hi : i < x.cps.size := by
      have := (List.getElem?_eq_some_iff.mp q).1
      rwa [Array.length_toList] at this
    refine ⟨hi, fun y H3 hy => ?_⟩
    obtain ⟨e3, c', hc, ey⟩ := hy
    subst e3
    subst ey
    rw [Array.getElem?_toList] at q
    rw [q] at hc
    cases hc
    exact ⟨Ext.refl _ _, hm2, fun _ _ z => z, .d (.str _)⟩
theorem q_txtI (he : QE X E e te) : QI X E tgE e (dTxtI te) :=
  PI.imp (pi_str he) fun σ H R ⟨m, z, ρ, M, hs, hm, hp⟩ => ⟨m, z, ρ, M, hs, hm, (Post.unbind hp).imp fun w M1 m1 H1 hr1 e1 hm1 hp1 v rv => by
    clear hr1
    split at hp1
    · rename_i x
      cases rv with
      | d rv =>
      cases rv
      exact ⟨x, rfl, Post.now (k := kI X.K z R) hp1 hm1 (fun j _ hj => by cases hj) _ (its_ok x)⟩
    · exact hp1.elim⟩
end
end By
namespace By
open PySem PySem.Spec PyProof.Rows L2
def allS : List PyData → Option (List Str)
  | [] => some []
  | .str x :: ds => (allS ds).map (x :: ·)
  | _ :: _ => none
theorem allS_vals {K : PySem.W.Frag} {m z : List Addr} {H : Hp} : ∀ {ds : List PyData} {ys : List Str} {vs : List V}, allS ds = some ys → RDs K m z H vs ds → vs = ys.map V.str
  | [], ys, vs, h, r => by
    cases h
    cases r
    rfl
  | d :: ds, ys, vs, h, r => by
    cases r with
    | cons r1 r2 =>
    cases d with
    | str x =>
      cases q : allS ds with
      | none =>
        have : allS (.str x :: ds) = (allS ds).map (x :: ·) := rfl
        rw [this, q] at h
        cases h
      | some zs =>
        have : allS (.str x :: ds) = (allS ds).map (x :: ·) := rfl
        rw [this, q] at h
        cases h
        cases r1
        rw [allS_vals q r2]
        rfl
    | _ => cases h
theorem allS_map : ∀ ys : List Str, allS (ys.map .str) = some ys
  | [] => rfl
  | y :: ys => by
    rw [List.map_cons]
    show (allS (ys.map .str)).map (y :: ·) = _
    rw [allS_map ys]
    rfl
def fJoin (a : Str) : F1 := fun w M => match sqD M w with
  | some ds => match allS ds with
    | some ys => if (ys.map (·.length)).sum + ys.length * a.length ≤ 1000000 then .ok (.d (.str (Txt.join a ys))) M else .bot
    | none => .bot
  | none => .bot
def kTxt (f : Str → F1) (te : DE) (ρ : Rho) : W → Mem → R W := fun w M1 => match w with
  | .d (.str a) => (te ρ M1).bind fun u M2 => f a u M2
  | _ => .bot
/-- a method of a text, of one argument -/
def dTx (f : Str → F1) (to te : DE) : DE := fun ρ M => (to ρ M).bind (kTxt f te ρ)
def fSplit (a : Str) : F1 := fun w M => match w with
  | .d (.str b) => if (b.length == 0) = false ∧ a.length + 2 ≤ 1000000 then .ok (.d (.list ((Txt.split a b).map .str))) M else .bot
  | _ => .bot
def fFind (a : Str) : F1 := fun w M => match w with
  | .d (.str b) => .ok (.d (.int (Txt.find a b))) M
  | _ => .bot
section
variable {X : Cx} {E : XK} {o e : Expr} {to te : DE} {p p2 pos apos : Pos}
theorem tx_of {r : V → List V → Hp → VK → Prop} {f : Str → F1} {σ : L2.St} {H : Hp} {Q : VK} (hr : ∀ (m z : List Addr) (H : Hp) (M : Mem) (a : Str) (y : V) (u : W) (Q : VK), RM X.K m z H M → RW X.K m z H y u → Post X.K z E m H (kE X.K z Q) (f a u M) → r (.str a) [y] H Q)
    (h : LE X.K E (dTx f to te) σ H Q) : tM1 r (LE X.K E to) (LE X.K E te) σ H Q := by
  obtain ⟨m, z, ρ, M, hs, hm, hp⟩ := h
  refine ⟨m, z, ρ, M, hs, hm, (Post.unbind hp).imp fun w M1 m1 H1 hr1 e1 hm1 hp1 v rv => ?_⟩
  clear hr1
  unfold kTxt at hp1
  split at hp1
  · rename_i a
    cases rv with
    | d rv =>
    cases rv
    exact ⟨⟨_, rfl⟩, m1, z, ρ, M1, hs.mono e1, hm1, (Post.unbind hp1).imp fun u M2 m2 H2 _ e2 hm2 hp2 y ry => hr m2 z H2 M2 a y u Q hm2 ry hp2⟩
  · exact hp1.elim
theorem rd_sq {K : PySem.W.Frag} {m z : List Addr} {H : Hp} {M : Mem} {w : W} {v : V} {ds : List PyData} (hm : RM K m z H M) (r : RW K m z H v w) (e : sqD M w = some ds) : ∃ a vs, v = .ref a ∧ (SqL K H a vs ∨ SqT K H a vs) ∧ RDs K m z H vs ds := by
  unfold sqD at e
  split at e
  · rename_i xs h
    cases e
    obtain ⟨a, vs, h1, h2, h3⟩ := rd_lst hm r h
    exact ⟨a, vs, h1, .inl h2, h3⟩
  · rename_i xs h
    cases e
    obtain ⟨a, vs, h1, h2, h3⟩ := rd_tup hm r h
    exact ⟨a, vs, h1, .inr h2.sq, h3⟩
  · cases e
theorem rds_txts {K : PySem.W.Frag} {m z : List Addr} {H : Hp} : ∀ ys : List Str, RDs K m z H (ys.map V.str) (ys.map .str)
  | [] => .nil
  | y :: ys => .cons (.str y) (rds_txts ys)
theorem q_join (ho : QE X E o to) (he : QE X E e te) (hs : starEach [e] X.env = [(false, eval e X.env)] := by rfl) (hbase : attributeBase o "join" X.env (eval o X.env) = eval o X.env := by rfl) (hline : (apos.endLine == pos.line) = true := by rfl) :
    QE X E (.Call (.Attribute o "join" apos) [e] [] pos) (dTx fJoin to te) :=
  PE.imp (pe_join ho he hs hbase hline) fun σ H Q h => tx_of (fun m z H M a y u Q hm ru hp => by
    unfold fJoin at hp
    split at hp
    · rename_i ds hd
      split at hp
      · rename_i ys hy
        split at hp
        · rename_i hl
          obtain ⟨l, vs, rfl, h1, h2⟩ := rd_sq hm ru hd
          have := allS_vals hy h2
          subst this
          exact ⟨a, l, ys, rfl, rfl, h1, by omega, Post.now (k := kE X.K z Q) hp hm _ (.d (.str _))⟩
        · exact hp.elim
      · exact hp.elim
    · exact hp.elim) h
theorem q_split (ho : QE X E o to) (he : QE X E e te) (hs : starEach [e] X.env = [(false, eval e X.env)] := by rfl) (hbase : attributeBase o "split" X.env (eval o X.env) = eval o X.env := by rfl) (hline : (apos.endLine == pos.line) = true := by rfl) :
    QE X E (.Call (.Attribute o "split" apos) [e] [] pos) (dTx fSplit to te) :=
  PE.imp (pe_split ho he hs hbase hline) fun σ H Q h => tx_of (fun m z H M a y u Q hm ru hp => by
    unfold fSplit at hp
    split at hp
    · rename_i b
      split at hp
      · rename_i hl
        cases ru with
        | d ru =>
        cases ru
        exact ⟨a, b, rfl, rfl, hl.1, s1000000 hl.2, post_lst hp hm (rds_txts _)⟩
      · exact hp.elim
    · exact hp.elim) h
end
def fSlS (u : W) (lo hi : Option Int) (M : Mem) : R W := match u with
  | .d (.str x) => if x.length ≤ 1000000 then .ok (.d (.str (cutS x lo hi))) M else .bot
  | _ => .bot
def dSlS (te : DE) (tl th : DO) : DE := fun ρ M => (te ρ M).bind fun w M1 => (tl ρ M1).bind fun lo M2 => (th ρ M2).bind fun hi M3 => fSlS w lo hi M3
def fSlM (u : W) (lo hi : Option Int) (M : Mem) : R W := match u with
  | .r k => match M[k]? with
    | some (.lst ws) => .ok (.r M.length) (M ++ [.lst (cut ws lo hi)])
    | _ => .bot
  | _ => .bot
def dSlM (te : DE) (tl th : DO) : DE := fun ρ M => (te ρ M).bind fun w M1 => (tl ρ M1).bind fun lo M2 => (th ρ M2).bind fun hi M3 => fSlM w lo hi M3
theorem cut_rws {K : PySem.W.Frag} {m z : List Addr} {H : Hp} {vs : List V} {ws : List W} (r : RWs K m z H vs ws) (lo hi : Option Int) : RWs K m z H (cutV vs lo hi) (cut ws lo hi) := by
  unfold cutV cut
  rw [Paired.length r]
  have dr : ∀ (n : Nat) {vs : List V} {ws : List W}, RWs K m z H vs ws → RWs K m z H (vs.drop n) (ws.drop n) := by
    intro n
    induction n with
    | zero => intro vs ws r; exact r
    | succ n ih =>
      intro vs ws r
      cases r with
      | nil => exact .nil
      | cons r1 r2 => exact ih r2
  have tk : ∀ (n : Nat) {vs : List V} {ws : List W}, RWs K m z H vs ws → RWs K m z H (vs.take n) (ws.take n) := by
    intro n
    induction n with
    | zero => intro vs ws r; exact .nil
    | succ n ih =>
      intro vs ws r
      cases r with
      | nil => exact .nil
      | cons r1 r2 => exact .cons r1 (ih r2)
  exact tk _ (dr _ r)
section
variable {X : Cx} {E : XK} {e : Expr} {te : DE} {pos p2 : Pos} {lo hi : Option Expr} {tl th : DO}
theorem q_slM (he : QE X E e te) (hl : QO X E lo tl) (hh : QO X E hi th) : QE X E (.Subscript e (.Slice lo hi none p2) pos) (dSlM te tl th) :=
  PE.imp (pe_slice sl_list he hl hh) fun σ H Q ⟨m, z, ρ, M, hs, hm, hp⟩ => ⟨m, z, ρ, M, hs, hm, (Post.unbind hp).imp fun w M1 m1 H1 _ e1 hm1 hp1 v rv =>
    ⟨m1, z, ρ, M1, hs.mono e1, hm1, (Post.unbind hp1).imp fun l M2 m2 H2 _ e2 hm2 hp2 => ⟨m2, z, ρ, M2, (hs.mono e1).mono e2, hm2, (Post.unbind hp2).imp fun h M3 m3 H3 _ e3 hm3 hp3 => by
      have rv3 := (rv.mono e2).mono e3
      unfold fSlM at hp3
      split at hp3
      · split at hp3
        · rename_i k ws hw
          cases rv3 with
          | r ha =>
          obtain ⟨vs, h1, h2⟩ := hm3.ob _ _ _ hw ha
          exact ⟨_, vs, rfl, SqL.of h1, post_lstM hp3 hm3 (cut_rws h2 l h)⟩
        · exact hp3.elim
      · exact hp3.elim⟩⟩⟩
end
end By
namespace By
open PySem PySem.Spec PyProof.Rows L2 PySem.Calls
def kAugF2 (C : Addr) (f : Str) (ρ : Rho) (u : W) : W → Mem → R Out := fun r M5 => match fSetF C f M5 u r with
  | some M6 => .ok (.nx ρ) M6
  | none => .bot
def kAugF (C : Addr) (f : Str) (g : F2) (te : DE) (ρ : Rho) : W → Mem → R Out := fun u M1 => match getF C M1 f u with
  | some x => (te ρ M1).bind fun y M2 => (g x y M2).bind (kAugF2 C f ρ u)
  | none => .bot
def dAugF (C : Addr) (f : Str) (to : DE) (g : F2) (te : DE) : DS := fun ρ M => (to ρ M).bind (kAugF C f g te ρ)
section
variable {X : Cx} {E : XK} {C : Addr} {f : Str} {o e : Expr} {to te : DE} {pos tpos : Pos} {op : Operator} {r : R2} {g : F2}
end
def okNN : PyData → PyData → Bool
  | .int i, .int j => decide (i.natAbs.log2 < 1920) && decide (j.natAbs.log2 < 1920)
  | _, _ => false
section
variable {X : Cx} {E : XK} {e : Expr} {es : List Expr} {ta : TA} {x : Str} {C fI cc cda : Addr} {p pos : Pos} {name qual self v1 v2 f1 f2 : Str} {params : Arguments} {body : List Stmt} {dV kV doc pm ct : Value} {an : Option Addr} {sc : Scope}
theorem pmk_ox2N {k : Nat} (T : OxC X.K C) (iC : PySem.W.findIn X.K (.ref C) "__init__" = some (some (.ref fI))) (tI : PySem.W.typeIn X.K (.ref fI) = some (.type "function"))
    (O : OxI X.prog X.K X.mg C fI cc cda self (PySem.W.ksFn name qual params body sc dV kV doc pm an (.ref cda) ct cc)) (S : InitSc [self, v1, v2] sc) {p0 p1 p2 p3 p4 p5 p6 p7 p8 p9 p10 p11 p12 p13 p14 p15 p16 q1 q2 q3 : Pos} {t1 t2 : Str} {j1 j2 : Nat}
    (hbody : body = [.Expr (.Call (.Attribute (.Call (.Name "super" p0) [] [] p1) "__init__" p2) [.JoinedStr [.Constant (.str t1) j1 p5, .FormattedValue (.Name v1 p6) (-1) none p7, .Constant (.str t2) j2 q1, .FormattedValue (.Name v2 q2) (-1) none q3] p8] [] p3) p4, .Assign [.Attribute (.Name self p9) f1 p10] (.Name v1 p11) p12, .Assign [.Attribute (.Name self p13) f2 p14] (.Name v2 p15) p16])
    (ht1 : t1.length ≤ 1000) (ht2 : t2.length ≤ 1000) (hcd : PySem.W.codeIn X.K (.ref cda) qual = true) (no1 : PySem.W.findIn X.K (.ref C) f1 = some none) (no2 : PySem.W.findIn X.K (.ref C) f2 = some none) (hb : ∀ (s : Shared) (a b c : Value), bindArgs (PySem.W.ksFn name qual params body sc dV kV doc pm an (.ref cda) ct cc) ⟨[a, b, c], []⟩ = pure [(self, a), (v1, b), (v2, c)])
    (hr : Room (k + 2) X.A) (hg : Gl X x) (hm : X.mg x = some (.ref C)) (ha : PA X (e :: es) ta) (d0 : (self == ("__debug__" : Str)) = false := by decide) (d1 : (v1 == ("__debug__" : Str)) = false := by decide) (d2 : (v2 == ("__debug__" : Str)) = false := by decide)
    (c0 : (self == ("__classdict__" : Str)) = false := by decide) (c1 : (v1 == ("__classdict__" : Str)) = false := by decide) (c2 : (v2 == ("__classdict__" : Str)) = false := by decide)
    {pl : Addr → Sem Bool} (hev : ∀ L : Addr, eval (.Call (.Attribute (.Call (.Name "super" p0) [] [] p1) "__init__" p2) [.JoinedStr [.Constant (.str t1) j1 p5, .FormattedValue (.Name v1 p6) (-1) none p7, .Constant (.str t2) j2 q1, .FormattedValue (.Name v2 q2) (-1) none q3] p8] [] p3) (oxEnv qual sc L fI (.ref cda) cc) = (do
      let ov ← attributeBase (.Call (.Name "super" p0) [] [] p1) "__init__" (oxEnv qual sc L fI (.ref cda) cc) (eval (.Call (.Name "super" p0) [] [] p1) (oxEnv qual sc L fI (.ref cda) cc))
      standAt p2.atName
      let (fx, first) ← holding [ov] (getMethod ov "__init__" (pl L))
      callWith p3 fx first (backTo p3 (starEach [.JoinedStr [.Constant (.str t1) j1 p5, .FormattedValue (.Name v1 p6) (-1) none p7, .Constant (.str t2) j2 q1, .FormattedValue (.Name v2 q2) (-1) none q3] p8] (oxEnv qual sc L fI (.ref cda) cc))) []) := by intro L; rfl)
    (hdb : (x == ("__debug__" : Str)) = false := by decide) (he : starEach (e :: es) X.env = (false, eval e X.env) :: starEach es X.env := by rfl) (hpl : (backTo pos (starEach es X.env)).any (·.1) = false := by rfl) :
    PMk X (.Call (.Name x p) (e :: es) [] pos) (tMkX C 2 (fun vs H => ∃ i j : Int, vs = [.int i, .int j] ∧ i.natAbs.log2 < 1920 ∧ j.natAbs.log2 < 1920) (fun vs => match vs with
      | [a, b] => [(f2, b), (f1, a)]
      | _ => []) ta) := by
  refine pmk_ox (k := k + 1) T iC tI hr hg hm ha (fun A s H Q a us vs hgA hrA e0 r hl hea ht hq => ?_) (fun vs H a hn h => h) hdb he hpl
  obtain ⟨i, y, rfl, hi, hy⟩ := ht
  cases r with
  | cons r1 r =>
  cases r with
  | cons r2 r =>
  cases r
  have vs1 := ox_vis S (i := 1) rfl
  have vs2 := ox_vis S (i := 2) rfl
  have vs0 := ox_vis S (i := 0) rfl
  refine ox_run T O S rfl hbody hcd hrA e0 (.of_eq (hb s _ _ _)) (.cons r1 (.cons r2 .nil)) rfl hea
    (pe_joined (.cons pe_str (.cons (pe_fmtD (pe_var (i := 1) rfl vs1 d1 c1)) (.cons pe_str (.cons (pe_fmtD (pe_var (i := 2) rfl vs2 d2 c2)) .nil)))))
    (pss_cons (ps_ox (pe_var (i := 0) rfl vs0 d0 c0) (pe_var (i := 1) rfl vs1 d1 c1)) (pss_one (ps_ox (pe_var (i := 0) rfl vs0 d0 c0) (pe_var (i := 2) rfl vs2 d2 c2)))) ?_ ?_ (hev _)
  · have z0 : Str.empty.length ≤ 10000 := by decide
    refine ⟨t1, rfl, (len_4 ht1 z0 ht2 z0).1, .int i, rfl, .inl ⟨i, rfl, hi⟩, fun y1 h1 => ⟨y1, rfl, (len_4 ht1 h1 ht2 z0).2.1, t2, rfl, (len_4 ht1 h1 ht2 z0).2.2.1, .int y, rfl, .inl ⟨y, rfl, hy⟩, fun y2 h2 => ⟨y2, rfl, (len_4 ht1 h1 ht2 h2).2.2.2, ⟨_, rfl⟩, rfl⟩⟩⟩
  · refine ⟨.int i, rfl, .ref a, rfl, a, C, rfl, T, no1, .inl ⟨hea, fun dx hdx da => ?_⟩⟩
    refine ⟨.int y, rfl, .ref a, rfl, a, C, rfl, T, no2, .inr ⟨dx, [(f1, .int i)], upd_same, by rw [upd_ne da, upd_same], (by show 1 ≤ 900; decide), ?_⟩⟩
    refine hq dx hdx da _ (by rw [upd_ne da.symm, upd_same]) upd_same fun b h1 h2 => by rw [upd_ne h2, upd_ne h1, upd_ne h2]
variable {a b : Expr} {tda tdb : DE} {pos2 : Pos}
theorem qs_raise2N (hc : X.calm = true) (tk : Takes X (fun cls d _ H => E cls d H)) (h : PMk X (.Call (.Name x p) [a, b] [] pos) (tMkX C 2 (fun vs H => ∃ i j : Int, vs = [.int i, .int j] ∧ i.natAbs.log2 < 1920 ∧ j.natAbs.log2 < 1920) (fun vs => match vs with
      | [a, b] => [(f2, b), (f1, a)]
      | _ => []) (tCons (LE X.K E tda) (tCons (LE X.K E tdb) tNil)))) :
    QS X E (.Raise (some (.Call (.Name x p) [a, b] [] pos)) none pos2) (dRaise2 okNN C f1 f2 tda tdb) :=
  PS.imp (ps_raise hc tk h) fun D σ H ⟨m, z, ρ, M, hs, hm, hp⟩ => ⟨m, z, ρ, M, hs, hm, (Post.unbind hp).imp fun w M1 m1 H1 _ e1 hm1 hp1 v rv => ⟨m1, z, ρ, M1, hs.mono e1, hm1, (Post.unbind hp1).imp fun u M2 m2 H2 _ e2 hm2 hp2 y ry => by
    cases w with
    | r _ => exact hp2.elim
    | p _ _ => exact hp2.elim
    | d d =>
    cases u with
    | r _ => exact hp2.elim
    | p _ _ => exact hp2.elim
    | d d2 =>
    have hp3 : Post X.K z E m2 H2 (kS X.K z D) (if okNN d d2 = true then R.ex ⟨.ref C, [(f2, d2), (f1, d)]⟩ M2 else .bot) := hp2
    by_cases ok : okNN d d2 = true
    · rw [if_pos ok] at hp3
      cases d with
      | int i =>
        cases d2 with
        | int t =>
          have ok' : (decide (i.natAbs.log2 < 1920) && decide (t.natAbs.log2 < 1920)) = true := ok
          rw [Bool.and_eq_true, decide_eq_true_eq, decide_eq_true_eq] at ok'
          cases rv with
          | d rv =>
          cases rv
          cases ry with
          | d ry =>
          cases ry
          refine ⟨rfl, ⟨i, t, rfl, ok'.1, ok'.2⟩, fun dd hd => ?_⟩
          exact hp3 m2 _ (Ext.new hd) (hm2.new hd) (.ref C) (some dd) ⟨rfl, .own upd_same (.cons ⟨rfl, .int t⟩ (.cons ⟨rfl, .int i⟩ .nil))⟩
        | _ => cases ok
      | _ => cases ok
    · rw [if_neg ok] at hp3
      exact hp3.elim⟩⟩
end
end By
namespace By
open PySem PySem.Spec PyProof.Rows L2
abbrev Cl := Value × Nat × (Addr → Value → Option Addr → TS)
/-- what is left of a clause's name behind it -/
def endsGone (i : Nat) (D : L2.Ends) : L2.Ends := { nx := fun σ' H' => D.nx (σ'.set i none) H', rt := D.rt, bk := fun σ' H' => D.bk (σ'.set i none) H', ct := fun σ' H' => D.ct (σ'.set i none) H' }
/-- what the clauses ask of an exception -/
def wCls (K : PySem.W.Frag) (Wout : WX) (D : L2.Ends) : List Cl → WX
  | [] => Wout
  | (c, i, ts) :: r => fun cls d σ H => ∃ b, PySem.W.exmOne K cls c = some b ∧ (b = true → ∀ a, H a = none → ts a cls d (endsGone i D) (σ.set i (some (.ref a))) H) ∧ (b = false → wCls K Wout D r cls d σ H)
inductive ClsOk (X : Cx) : List ExceptHandler → List Cl → Prop
  | nil : ClsOk X [] []
  | cons {x n : Str} {c : Value} {i : Nat} {ts : Addr → Value → Option Addr → TS} {b₀ : Stmt} {suite : List Stmt} {np pos' : Pos} {hds : List ExceptHandler} {l : List Cl} (hi : X.N[i]? = some n) (hln : X.env.kindOf n = some .local) (hc : Names X x c)
      (hsu : ∀ (a : Addr) (oe : Obj) (cls : Value) (d : Option Addr) (pn : List (Addr × Obj)), Zc cls d oe → (∃ vs, oe.data = .fields vs) → PSs (X.suite a ((a, oe) :: pn)) (b₀ :: suite) (ts a cls d)) (r : ClsOk X hds l) :
      ClsOk X (.ExceptHandler (some (.Name x np)) (some n) (b₀ :: suite) pos' :: hds) ((c, i, ts) :: l)
/-- an exception that has come to the clauses -/
structure Come (X : Cx) (pins : List (Addr × Obj)) (B : Heap) (a : Addr) (cls : Value) (d : Option Addr) (σ : L2.St) (H : Hp) (s : Shared) : Prop where
  na : H a = none
  fl : HandSPX.FlyingZ B (X.env :: X.outer) a (Zc cls d) s.heap
  at_ : ∀ h, HandSPX.FlyingZ B (X.env :: X.outer) a (Zc cls d) h → s.heap.UpToSlots h → Inv X pins σ H { s with heap := h }
  out : ∀ (W : WX) h, W cls d σ H → HandSPX.HeldZ B (X.env :: X.outer) a (Zc cls d) X.env.locals h → s.heap.UpToSlots h → XE X W (.ref a) { s with heap := h }
section
variable {X : Cx} {pins : List (Addr × Obj)} {B : Heap} {a : Addr} {cls : Value} {d : Option Addr} {σ : L2.St} {H : Hp} {s : Shared}
theorem Come.inv (c : Come X pins B a cls d σ H s) : Inv X pins σ H s := c.at_ s.heap c.fl (Heap.UpToSlots.refl _)
theorem Come.suite (c : Come X pins B a cls d σ H s) (hf : X.env.frame = some X.env.locals) {h : Heap} (fl : HandSPX.FlyingZ B (X.env :: X.outer) a (Zc cls d) h) (up : s.heap.UpToSlots h) :
    ∃ oe, (∃ vs, oe.data = .fields vs) ∧ Zc cls d oe ∧ h.get? a = some oe ∧ Inv (X.suite a ((a, oe) :: (X.pn ++ pins))) [] σ H { s with heap := h } := by
  obtain ⟨oe, vs, he, hz, hd⟩ := fl.there
  have nf : a ∉ frs (X.env :: X.outer) := fun hm => by
    obtain ⟨_, o', e', hnf⟩ := fl.2.2.1.mem hm
    rw [he] at e'
    cases e'
    exact hnf _ hd
  have nL : a ≠ X.env.locals := fun e => nf (List.mem_filterMap.mpr ⟨X.env, List.mem_cons_self, by rw [hf, e]⟩)
  have nF : a ∉ X.fs := fun hm => by
    obtain ⟨e, h1, h2⟩ := List.mem_filterMap.mp hm
    exact nf (List.mem_filterMap.mpr ⟨e, List.mem_cons_of_mem _ h1, h2⟩)
  exact ⟨oe, ⟨vs, hd⟩, hz, he, (c.at_ h fl up).suite he hd c.na nL nF⟩
theorem clauses_ok {Wout : WX} {D : L2.Ends} (hf : X.env.frame = some X.env.locals) (hN : X.N.Nodup) (ok : X.Ok) (tk : Takes X Wout) (co : Come X pins B a cls d σ H s) : ∀ {hds : List ExceptHandler} {l : List Cl}, ClsOk X hds l → wCls X.K Wout D l cls d σ H →
    wpAny (model X.prog X.w) X.A (handleBy (.ref a) X.env hds) (SP X pins D) X.xe s := by
  intro hds l hk
  induction hk with
  | nil =>
    intro w
    refine wpAny_handleBy_nil ?_
    obtain ⟨k1, k2, k3, oe, vs, T, oT, ts', he, hz, hd, h1, hr⟩ := id co.fl
    unfold PySem.passOn
    refine wpAny_bind (wpAny_field he hd h1 ?_)
    rw [if_neg (show ¬ ((Value.ref T == Value.none) = true) from by simp)]
    have go : wpAny (model X.prog X.w) X.A (setFlight (.ref a) X.env.frame) (fun _ s4 => wpAny (model X.prog X.w) X.A (throw (.ref a) : Sem Flow) (SP X pins D) X.xe s4) X.xe s := by
      rw [hf]
      exact HandSPX.setFlight_upZ co.fl fun h4 hh up => wpAny_throw (tk _ _ (co.out Wout h4 w hh up))
    first
      | exact wpAny_bind (wpAny_pure (wpAny_bind go))
      | exact wpAny_bind go
  | @cons x n c i ts b₀ suite np pos' hds l hi hln hc hsu r ih =>
    intro w
    obtain ⟨b, hb, yes, no⟩ := w
    obtain ⟨oe, _, hz, he, S⟩ := co.suite hf co.fl (Heap.UpToSlots.refl _)
    have lk : PySem.W.Looks (model X.prog X.w) s.heap (typeOf (.ref a)) cls := fun A Q E s2 k q => wpAny_typeOf_ref (k _ _ he) (by rw [hz.1]; exact q)
    have mt := PySem.W.exm_one (M := model X.prog X.w) (co.inv.kIn) lk hb
    have named : ∀ {Q E : Value → Shared → Prop}, Q c s → wpAny (model X.prog X.w) (X.A.mark (some (.ref a))) (eval (.Name x np) X.env) Q E s := fun {Q E} q => by
      obtain ⟨g1, g2, g3 | ⟨g3, g4, g5⟩⟩ := hc
      · exact ld_glob (X := X.suite a ((a, oe) :: (X.pn ++ pins))) S g1 g3 q g2
      · exact ld_blt (X := X.suite a ((a, oe) :: (X.pn ++ pins))) S g1 g3 g4 q g5 g2
    refine wpAny_handleBy_cons (codeAny_handlers_test (named (mt.here ?_))) (by intro q; cases q)
    cases b with
    | false => exact ih (no rfl)
    | true =>
      refine codeAny_handlers_suite_as (HandSPX.lands_againZ co.fl fun h4 fl4 up4 => ?_)
      obtain ⟨oe4, hd4, hz4, he4, S4⟩ := co.suite hf fl4 up4
      refine store_ok (X := X.suite a ((a, oe4) :: (X.pn ++ pins))) (v := .ref a) S4 hN hi (.inl hln) rfl (fun s5 S5 => ?_) (.inr hln)
      refine wpAny_mono ((hsu a oe4 cls d (X.pn ++ pins) hz4 hd4).run [] s5 _ H _ S5 (yes rfl a co.na)) (fun f s6 hsp => ?_) (fun _ _ z => z.elim)
      have behind : ∀ {σ6 : L2.St} {H6 : Hp} {Q : Shared → Prop}, Inv (X.suite a ((a, oe4) :: (X.pn ++ pins))) [] σ6 H6 s6 → (∀ s7, Inv X pins (σ6.set i none) H6 s7 → Q s7) →
          wpAny (model X.prog X.w) X.A (do bindName X.env n .none; unbindBehindTheSuite X.env n pos') (fun _ s7 => Q s7) X.xe s6 := fun {σ6 H6 Q} S6 hq => gone_ok (S6.unsuite ok) hN hi hln hq
      cases f with
      | ret u =>
        obtain ⟨v6, σ6, H6, S6, r6, q6⟩ := hsp
        exact behind S6 fun s7 J7 => ⟨_, _, _, J7, r6, q6⟩
      | _ =>
        obtain ⟨σ6, H6, S6, q6⟩ := hsp
        exact behind S6 fun s7 J7 => ⟨_, _, J7, q6⟩
theorem ps_clauses {body orelse : List Stmt} {h₀ : ExceptHandler} {hds : List ExceptHandler} {l : List Cl} {pos : Pos} {tb : WX → TS} {Wout : WX} {u : TS} (ho : PSs X orelse u) (hs : X.stack = X.env :: X.outer) (hf : X.env.frame = some X.env.locals) (hN : X.N.Nodup) (tk : Takes X Wout)
    (hb : ∀ (W : WX) (pn : List (Addr × Obj)) (xe : Value → Shared → Prop), Takes (X.tr pn xe) W → PassesOwn (model X.prog X.w) X.A X.env xe → PSs (X.tr pn xe) body (tb W))
    (hh : ClsOk X (h₀ :: hds) l) : PS X (.Try body (h₀ :: hds) orelse [] pos) (fun D σ H => tb (wCls X.K Wout D l) { D with nx := u D } σ H) := by
  refine ⟨fun pins s σ H D I h => wpAny_Try_except ?_⟩
  have ok := I.ok
  have hfr : X.A.frames = some (X.env :: X.outer) := by rw [ok.frames, hs]
  have run := fun xe t p => (hb (wCls X.K Wout D l) (X.pn ++ pins) xe t p).run [] s σ H { D with nx := u D } (I.toTry _) h
  refine wpAny_mono (run (fun e s₁ => wpAny (model X.prog X.w) X.A (noteFrame e X.env) (fun _ s₂ => wpAny (model X.prog X.w) X.A (setFlight e none) (fun _ s₃ => wpAny (model X.prog X.w) X.A (handleBy e X.env (h₀ :: hds)) (SP X pins D) X.xe s₃) X.xe s₂) X.xe s₁) (fun v s' xx => ?_) PassesOwn.looking) (fun f s1 hsp => ?_) (fun _ _ he => he)
  · obtain ⟨a, B, sI, pins', σ', H', cls, d, rfl, J', nb, up, sky, na, os, ag, w⟩ := xx
    have J : Inv X pins σ' H' sI := J'.ofTry ok
    have sky' : Sky B (X.env :: X.outer) a (Zc cls d) X.env.locals s'.heap := by rw [← hs]; exact sky
    refine Sky.land Zc.steady hfr hf sky' fun h3 fl3 up3 => ?_
    refine clauses_ok (s := { s' with heap := h3 }) hf hN ok tk ⟨na, fl3, fun h fl4 up4 => J.landed nb fl4.1 ((up.trans up3).trans up4) os ag, fun W h hw hh4 up4 => ?_⟩ hh w
    exact ⟨a, B, sI, pins, σ', H', cls, d, rfl, J, nb, (up.trans up3).trans up4, .inr (.inr (by rw [hs]; exact hh4)), na, os, ag, hw⟩
  · cases f with
    | next =>
      obtain ⟨σ', H', J', q⟩ := hsp
      exact ho.run pins s1 σ' H' D (J'.ofTry ok) q
    | ret v =>
      obtain ⟨v, σ', H', J', r, q⟩ := hsp
      exact ⟨v, σ', H', J'.ofTry ok, r, q⟩
    | _ =>
      obtain ⟨σ', H', J', q⟩ := hsp
      exact ⟨σ', H', J'.ofTry ok, q⟩
end
end By
namespace By
open PySem PySem.Spec PyProof.Rows L2
def kTryE (C : Addr) (f1 f2 : Str) (tu : DS) (ρ : Rho) : R W → R Out
  | .ok _ M1 => tu ρ M1
  | .ex e M1 => if e.cls = .ref C then (match lookD f1 e.fs, lookD f2 e.fs with
    | some d1, some d2 => .ok (.rt (.d (.tuple [d1, d2]))) M1
    | _, _ => .bot) else .bot
  | .bot => .bot
def dTryE (C : Addr) (f1 f2 : Str) (tc : DE) (tu : DS) : DS := fun ρ M => kTryE C f1 f2 tu ρ (tc ρ M)
theorem Post.later {α : Type} {K : PySem.W.Frag} {z m m1 : List Addr} {H H1 : Hp} {E : XK} {k : α → Mem → List Addr → Hp → Prop} {r : R α} (e1 : Ext m H m1 H1) (h : Post K z E m H k r) : Post K z E m1 H1 k r := by
  cases r with
  | ok a M' => exact fun m' H' e hm => h m' H' (e1.trans e) hm
  | ex x M' => exact fun m' H' e hm => h m' H' (e1.trans e) hm
  | bot => exact h
section
variable {X : Cx} {E : XK} {C : Addr} {f1 f2 x n : Str} {e : Expr} {orelse : List Stmt} {tc : DE} {tu : DS} {i k : Nat} {p1 p2 p3 p4 p5 p6 p7 p8 p9 pos : Pos}
theorem qs_tryE (hs : X.stack = X.env :: X.outer) (hf : X.env.frame = some X.env.locals) (nd : X.N.Nodup) (hi : X.N[i]? = some n) (hln : X.env.kindOf n = some .local) (hg : Gl X x) (hm : X.mg x = some (.ref C)) (hd : (x == ("__debug__" : Str)) = false)
    (T : XfC X.K C) (n1 : PySem.W.findIn X.K (.ref C) f1 = some none) (n2 : PySem.W.findIn X.K (.ref C) f2 = some none) (hex : PySem.W.exmOne X.K (.ref C) (.ref C) = some true) (de : (n == ("__debug__" : Str)) = false) (ce : (n == ("__classdict__" : Str)) = false)
    (ha1 : ∀ env : Env, attributeBase (.Name n p4) f1 env (eval (.Name n p4) env) = eval (.Name n p4) env) (ha2 : ∀ env : Env, attributeBase (.Name n p7) f2 env (eval (.Name n p7) env) = eval (.Name n p7) env) (hvis : Vis X.env.scope n)
    (hb : ∀ (pn : List (Addr × Obj)) (xe : Value → Shared → Prop) (E1 : XK) (W : WX), Takes (X.tr pn xe) W → (∀ cls d σ H, E1 cls d H → W cls d σ H) → QE (X.tr pn xe) E1 e tc) (ho : QSs X E orelse tu)
    (hsw : ∀ pn xe, swapsWith e none p1.line (X.tr pn xe).env = pure false := by intros; rfl)
    (hst : ∀ a p, starEach [.Attribute (.Name n p4) f1 p5, .Attribute (.Name n p7) f2 p8] (X.suite a p).env = (false, eval (.Attribute (.Name n p4) f1 p5) (X.suite a p).env) :: starEach [.Attribute (.Name n p7) f2 p8] (X.suite a p).env := by intros; rfl)
    (hst2 : ∀ a p, starEach [.Attribute (.Name n p7) f2 p8] (X.suite a p).env = (false, eval (.Attribute (.Name n p7) f2 p8) (X.suite a p).env) :: starEach [] (X.suite a p).env := by intros; rfl) :
    QS X E (.Try [.Expr e p1] [.ExceptHandler (some (.Name x p2)) (some n) [.Return (some (.Tuple [.Attribute (.Name n p4) f1 p5, .Attribute (.Name n p7) f2 p8] k p9)) p6] p3] orelse [] pos) (dTryE C f1 f2 tc tu) := by
  refine PS.imp (ps_clauses (Wout := fun _ _ _ _ => False) (l := [(.ref C, i, _)])
    (tb := fun W D σ H => ∃ E1 : XK, (∀ cls d σ' H', σ'.length = X.N.length → E1 cls d H' → W cls d σ' H') ∧ LE X.K E1 tc σ H fun _ H1 => D.nx σ H1)
    ho hs hf nd LamX.takes0 (fun W pn xe tk _ => ⟨fun pins s' σ H D I h => ?_⟩) (.cons hi hln ⟨hg, hd, .inl hm⟩ (fun b oe cls d pn hz hff => pss_one (ps_ret (pe_tup (pa_cons (pe_xf T n1 hz hff (pe_var (i := i) hi hvis de ce) (ha1 _)) (pa_cons (pe_xf T n2 hz hff (pe_var (i := i) hi hvis de ce) (ha2 _)) pa_nil (hst2 _ _)) (hst _ _))))) .nil)) fun D σ H ⟨m, z, ρ, M, hs, hm, hp⟩ => ?_
  · obtain ⟨E1, hW, h3⟩ := h
    have hq := hb pn xe E1 (fun cls d σ H => σ.length = X.N.length → W cls d σ H) (takes_len tk) (fun cls d σ' H' hE hl => hW cls d σ' H' hl hE)
    exact (pss_one (ps_expr (pos := p1) hq (hsw pn xe))).run pins s' σ H D I h3
  · refine ⟨fun cls d H' => cls = .ref C ∧ ∃ (dd : Addr) (fs : List (Str × V)) (v1 v2 : V), d = some dd ∧ H' dd = some (.xd fs) ∧ fs.lookup f1 = some v1 ∧ fs.lookup f2 = some v2 ∧ ∀ p, H' p = none → D.rt (.ref p) (upd H' p (.tup [v1, v2])), fun cls d σ' H' hl hE => ?_, m, z, ρ, M, hs, hm, ?_⟩
    · obtain ⟨rfl, dd, fs, v1, v2, rfl, h1, h2, h3, h4⟩ := hE
      refine ⟨true, hex, fun _ b hb => ?_, fun z => by cases z⟩
      have hl2 : i < X.N.length := (List.getElem?_eq_some_iff.mp hi).1
      have hv : (σ'.set i (some (.ref b)))[i]? = some (some (.ref b)) := by rw [List.getElem?_set_self (by omega)]
      exact ⟨.ref b, hv, rfl, rfl, dd, fs, v1, rfl, h1, h2, .ref b, hv, rfl, rfl, dd, fs, v2, rfl, h1, h3, s1000 (show 2 ≤ 1000 by decide), h4⟩
    · unfold dTryE at hp
      revert hp
      cases tc ρ M with
      | bot => exact fun h => h.elim
      | ok w M1 =>
        intro hp m1 H1 e1 hm1 v rv
        have hp2 : Post X.K z E m H (kS X.K z D) (tu ρ M1) := hp
        exact ⟨m1, z, ρ, M1, hs.mono e1, hm1, Post.later e1 hp2⟩
      | ex x M1 =>
        intro hp m1 H1 e1 hm1 cls dd rx
        have hp2 : Post X.K z E m H (kS X.K z D) (if x.cls = .ref C then (match lookD f1 x.fs, lookD f2 x.fs with
          | some d1, some d2 => .ok (.rt (.d (.tuple [d1, d2]))) M1
          | _, _ => .bot) else .bot) := hp
        split at hp2
        · rename_i hcls
          split at hp2
          · rename_i d1 d2 l1 l2
            obtain ⟨rc, rd⟩ := rx
            revert l1 l2 rd
            generalize x.fs = fs
            intro l1 l2 rd
            cases rd with
            | nil => cases l1
            | own ha hfs =>
              obtain ⟨v1, a1, a2⟩ := lookD_v hfs l1
              obtain ⟨v2, b1, b2⟩ := lookD_v hfs l2
              refine ⟨rc.trans hcls, _, _, v1, v2, rfl, ha, a1, b1, fun p hpn => ?_⟩
              exact hp2 m1 _ (e1.trans (Ext.new hpn)) (hm1.new hpn) (.ref p) (.d (.tup (.inl ⟨Rd.of upd_same, hm1.fresh_notin hpn, hm1.fresh_notz hpn⟩) ((RDs.mono (Ext.new hpn) (.cons a2 (.cons b2 .nil))))))
          · exact hp2.elim
        · exact hp2.elim
end
end By
namespace By
open PySem PySem.Spec PyProof.Rows L2 PySem.Calls
def okRT : PyData → Bool
  | .str y => decide (y.length ≤ 1000)
  | _ => false
section
variable {X : Cx} {e : Expr} {es : List Expr} {ta : TA} {x : Str} {C fI cc cda : Addr} {p pos : Pos} {name qual self v1 f1 : Str} {params : Arguments} {body : List Stmt} {dV kV doc pm ct : Value} {an : Option Addr} {sc : Scope}
end
end By
namespace By
open PySem PySem.Spec PyProof.Rows L2
theorem walk_byTMx {x : Str} {q0 : Option Str} {l : PySem.W.OpenLaw} {k : Nat} {loose : List Str} {XP : (Str → Option Value) → Heap → Prop} {YP : World → Heap → Prop} {d : DefRec} {K : Params → PySem.W.Frag} {n : Nat} {F : (Nat → Addr) → (Nat → Addr) → FD} (hn : l.most = some 63) (hdf : d.params.defaults = []) (hr : Room k callerA)
    {ts : List Addr} (hY : ∀ (w : World) (h : Heap), YP w h → (K w.params).In h ∧ ∀ P ∈ ts, h.get? P = some (PySem.W.tabObj #[])) (hF : ∀ (cl pt : Nat → Addr) (ns : List Int), ns.length ≤ 63 → ∃ M, F cl pt [.d (.list (ns.map .int))] (memG q0 pt n) = .ok (.d (.bool true)) M)
    (G : ∀ (w : World) (mg : Str → Option Value) (fa : Addr) (h : Heap), (K w.params).In h → h.Ns mainGlobals mg → XP mg h → mg d.name = some (.ref fa) →
      ∃ (fd : FuncData) (cs : List (Addr × Addr)) (cl : Nat → Addr), cs.length = n ∧ (cs.map (·.2)).Nodup ∧ (∀ p ∈ cs, TabM (K w.params) ts p) ∧ (∀ (s : Shared) (u : Value), BindsTo s fd ⟨[u], []⟩ [(x, u)]) ∧
        ∀ base : Heap, (K w.params).In base → base.Ns mainGlobals mg → (∀ p ∈ cs, GxR.TabB base mg p.1 p.2) → FnG l.prog w (K w.params) mg base k fa fd [x] (spOf (K w.params) (F cl fun i => ((cs[i]?).map (·.2)).getD 0))) :
    PySem.W.WalkO q loose XP YP l.row.toRowW d [] (fun f vs => PySem.call f vs) := by
  refine Att.attach_call hn hdf fun w s₀ s₁ mg mb fa ob pm cd doc sa vs ns gr Y _ _ _ hmg hobj hints hlen hg => ?_
  obtain ⟨kx, kt⟩ := hY w _ Y
  obtain ⟨fd, cs, cl, hcn, hnd, htk, hb, hf⟩ := G w mg fa _ kx gr.T.g gr.X hmg
  have tb : ∀ p ∈ cs, s₁.heap.get? p.2 = some { cls := .none, data := .fields #[] } ∧ PySem.W.CodeHd s₁.heap p.1 p.2 := fun p hp => by
    exact ⟨kt _ (htk p hp).mem, PySem.W.codeHd_of_K kx (htk p hp).hd⟩
  refine law_callT (pt := fun i => ((cs[i]?).map (·.2)).getD 0) kx gr.T.g gr.T.b gr.T.builtins gr.T.nolimit hg hr (fun p hp => (tb p hp).1) (fun p hp => (htk p hp).no) (fun p hp => (tb p hp).2) gr.T.bmain hobj hints (Nat.le_trans hlen (by decide)) hf hb (fun i hi => ?_) hnd (by rw [hcn]; exact hF cl _ ns hlen)
  exact ⟨cs[i], List.getElem?_eq_getElem hi, by rw [List.getElem?_eq_getElem hi]; rfl⟩
end By
namespace By
open PySem PySem.Spec PyProof.Rows L2
def kTry2 (C1 : Addr) (f : Str) (C2 : Addr) (g1 g2 : Str) (tu : DS) : R Out → R Out
  | .ok (.nx ρ) M1 => tu ρ M1
  | .ok _ _ => .bot
  | .ex e M1 => match lookD f e.fs with
    | some d => if e.cls = .ref C1 then .ok (.rt (.d d)) M1 else .bot
    | none => if e.cls = .ref C2 then (match lookD g1 e.fs, lookD g2 e.fs with
      | some d1, some d2 => .ok (.rt (.d (.tuple [d1, d2]))) M1
      | _, _ => .bot) else .bot
  | .bot => .bot
def dTry2 (C1 : Addr) (f : Str) (C2 : Addr) (g1 g2 : Str) (tb tu : DS) : DS := fun ρ M => kTry2 C1 f C2 g1 g2 tu (tb ρ M)
section
variable {X : Cx} {E : XK} {C1 C2 : Addr} {f g1 g2 x1 x2 n : Str} {body orelse : List Stmt} {tb tu : DS} {i k : Nat} {p1 p2 p3 p4 p5 p6 p7 p8 p9 q1 q2 q3 q4 q5 pos : Pos}
end
end By
namespace By
open PySem PySem.Spec PyProof.Rows L2
def fMulS : F2 := fun u w M => match u, w with
  | .d (.str x), .d (.int n) => if 0 ≤ n ∧ n ≤ 1000 ∧ x.length ≤ 1000 then .ok (.d (.str (Txt.mul x n))) M else .bot
  | _, _ => .bot
def rMulS : R2 := fun x y H Q => ∃ (a : Str) (n : Int), x = .str a ∧ y = .int n ∧ MulOk a n ∧ Q (.str (Txt.mul a n)) H
section
variable {X : Cx} {E : XK} {a b : Expr} {ta tb : DE} {pos : Pos}
end
end By
namespace By
open PySem PySem.Spec PyProof.Rows L2
theorem bind_ok {α β : Type} (a : α) (M : Mem) (f : α → Mem → R β) : (R.ok a M).bind f = f a M := rfl
theorem kept_refl (M : Mem) : kept M M := ⟨Nat.le_refl _, fun _ _ => .inl rfl⟩
theorem kept_app (M J : Mem) : kept M (M ++ J) := ⟨by rw [List.length_append]; omega, fun j h => .inl (List.getElem?_append_left h)⟩
theorem finD_d (M : Mem) (x : PyData) : finD M (.d x) M = .ok (.d x) M := by
  unfold finD
  rw [if_pos ⟨kept_refl M, trivial⟩, List.take_length]
  rfl
theorem finD_app {M J : Mem} {w : W} {x : PyData} (h : fzW (M ++ J) M.length w = .d x) : finD M w (M ++ J) = .ok (.d x) M := by
  unfold finD
  rw [h, if_pos ⟨kept_app M J, trivial⟩, List.take_left]
/-- one object of the store changed, what was made thrown away -/
theorem kept_set {M J : Mem} {i : Nat} {o : O} (ho : okO M.length o) : kept M (M.set i o ++ J) := ⟨by rw [List.length_append, List.length_set]; omega, fun j h => by
  rw [List.getElem?_append_left (by rw [List.length_set]; exact h)]
  by_cases e : i = j
  · subst e
    exact .inr ⟨o, List.getElem?_set_self h, ho⟩
  · exact .inl (List.getElem?_set_ne e)⟩
theorem finD_set {M J : Mem} {i : Nat} {o : O} {w : W} {x : PyData} (ho : okO M.length o) (h : fzW (M.set i o ++ J) M.length w = .d x) : finD M w (M.set i o ++ J) = .ok (.d x) (M.set i o) := by
  unfold finD
  rw [h, if_pos ⟨kept_set ho, trivial⟩]
  congr 1
  have : M.length = (M.set i o).length := by rw [List.length_set]
  rw [this, List.take_left]
theorem finD_set0 {M : Mem} {i : Nat} {o : O} {x : PyData} (ho : okO M.length o) : finD M (.d x) (M.set i o) = .ok (.d x) (M.set i o) := by
  have := finD_set (J := []) (w := .d x) (x := x) (i := i) ho rfl
  rw [List.append_nil] at this
  exact this
/-- a def whose body gives back data -/
theorem def_of {n N : Nat} {body : DS} {ws : List W} {M M' : Mem} {w : W} {r : R W} (hl : ws.length = n) (h : body (ws.map some ++ List.replicate (N - n) none) M = .ok (.rt w) M') (hf : finD M w M' = r) : defD n N body ws M = r := by
  unfold defD
  rw [if_pos hl, h]
  exact hf
theorem allD_map (ds : List PyData) : allD (ds.map .d) = some ds := by
  induction ds with
  | nil => rfl
  | cons d ds ih => simp only [List.map_cons, allD, ih, Option.map_some]
theorem gOk_none (ws : List W) (M : Mem) : gOk none ws M := fun _ _ h => by cases h
/-- a for, by what holds ahead of each turn -/
theorem floop_inv {all : List W} {g : Gd} {tg : Tg} {b : DS} (P : Nat → Rho → Mem → Prop) : ∀ (ws : List W) (i : Nat) (ρ : Rho) (M : Mem), P i ρ M → (∀ j ρ M, P j ρ M → gOk g all M) →
    (∀ j w ρ M, ws[j]? = some w → P (i + j) ρ M → ∃ ρ1 ρ2 M2, tg.den w ρ = some ρ1 ∧ (b ρ1 M = .ok (.nx ρ2) M2 ∨ b ρ1 M = .ok (.ct ρ2) M2) ∧ P (i + j + 1) ρ2 M2) → ∃ ρ' M', floop all g tg b ws ρ M = .ok (.nx ρ') M' ∧ P (i + ws.length) ρ' M'
  | [], i, ρ, M, h, hg, _ => ⟨ρ, M, by unfold floop; rw [if_pos (hg i ρ M h)], h⟩
  | w :: ws, i, ρ, M, h, hg, hs => by
    obtain ⟨ρ1, ρ2, M2, h1, h2, h3⟩ := hs 0 w ρ M rfl h
    obtain ⟨ρ', M', h4, h5⟩ := floop_inv P ws (i + 1) ρ2 M2 h3 hg fun j w' ρ M hj hp => by
      obtain ⟨r1, r2, m2, q1, q2, q3⟩ := hs (j + 1) w' ρ M hj (by rw [show i + (j + 1) = i + 1 + j by omega]; exact hp)
      exact ⟨r1, r2, m2, q1, q2, by rw [show i + 1 + j + 1 = i + (j + 1) + 1 by omega]; exact q3⟩
    refine ⟨ρ', M', ?_, by rw [List.length_cons, show i + (ws.length + 1) = i + 1 + ws.length by omega]; exact h5⟩
    unfold floop
    rw [if_pos (hg i ρ M h), h1]
    rcases h2 with h2 | h2
    · simp only [h2, bind_ok]
      exact h4
    · simp only [h2, bind_ok]
      exact h4
/-- a comprehension, by what holds ahead of each turn; all are taken -/
theorem cloop_inv {all : List W} {g : Gd} {tg : Tg} {c : DT} {te : DE} {ρ0 : Rho} (P : Nat → Mem → Prop) (F : Nat → W → Prop) : ∀ (ws : List W) (i : Nat) (M : Mem), P i M → (∀ j M, P j M → gOk g all M) →
    (∀ j w M, ws[j]? = some w → P (i + j) M → ∃ ρ1 x M2, tg.den w ρ0 = some ρ1 ∧ c ρ1 M = .ok true M ∧ te ρ1 M = .ok x M2 ∧ F (i + j) x ∧ P (i + j + 1) M2) →
    ∃ xs M', cloop all g tg c te ρ0 ws M = .ok xs M' ∧ xs.length = ws.length ∧ (∀ j x, xs[j]? = some x → F (i + j) x) ∧ P (i + ws.length) M'
  | [], i, M, h, hg, _ => ⟨[], M, by unfold cloop; rw [if_pos (hg i M h)], rfl, fun j x h => by simp at h, h⟩
  | w :: ws, i, M, h, hg, hs => by
    obtain ⟨ρ1, x, M2, h1, h2, h3, h4, h5⟩ := hs 0 w M rfl h
    obtain ⟨xs, M', h6, h7, h8, h9⟩ := cloop_inv P F ws (i + 1) M2 h5 hg fun j w' M hj hp => by
      obtain ⟨r1, y, m2, q1, q2, q3, q4, q5⟩ := hs (j + 1) w' M hj (by rw [show i + (j + 1) = i + 1 + j by omega]; exact hp)
      exact ⟨r1, y, m2, q1, q2, q3, by rw [show i + 1 + j = i + (j + 1) by omega]; exact q4, by rw [show i + 1 + j + 1 = i + (j + 1) + 1 by omega]; exact q5⟩
    refine ⟨x :: xs, M', ?_, by rw [List.length_cons, List.length_cons, h7], fun j y hj => ?_, by rw [List.length_cons, show i + (ws.length + 1) = i + 1 + ws.length by omega]; exact h9⟩
    · unfold cloop
      rw [if_pos (hg i M h), h1]
      simp only [h2, noEx, bind_ok, if_true, h3, h6]
    · cases j with
      | zero =>
        cases hj
        exact h4
      | succ j =>
        have := h8 j y hj
        rw [show i + 1 + j = i + (j + 1) by omega] at this
        exact this
theorem bits_le {i : Int} {n : Nat} (h : i.natAbs < 2 ^ n) : Builtin.Int.intBits i ≤ n := by
  unfold Builtin.Int.intBits
  split
  · exact Nat.zero_le _
  · rename_i h0
    have h1 : i.natAbs ≠ 0 := fun q => h0 (by simpa using q)
    have := (Nat.log2_lt h1).mpr h
    omega
theorem mulX {i j : Int} (hi : i.natAbs < 2 ^ 1000) (hj : j.natAbs < 2 ^ 1000) : CMulX i j := mulx_ok hi hj (by decide)
theorem fMul_ok {i j : Int} {M : Mem} (hi : i.natAbs < 2 ^ 1000) (hj : j.natAbs < 2 ^ 1000) : fMul (.d (.int i)) (.d (.int j)) M = .ok (.d (.int (i * j))) M := by
  simp only [fMul, fII, if_pos (mulX hi hj)]
theorem fMod_ok {i j : Int} {M : Mem} (h : 0 < j) : fMod (.d (.int i)) (.d (.int j)) M = .ok (.d (.int (i % j))) M := by
  simp only [fMod, fII, if_pos h]
theorem fDiv_ok {i j : Int} {M : Mem} (h : 0 < j) (hj : j.natAbs < 2 ^ 1000) : fDiv (.d (.int i)) (.d (.int j)) M = .ok (.d (.int (i / j))) M := by
  simp only [fDiv, fII, if_pos (wide_div h hj (by decide) (by decide))]
theorem fAdd_ok {i j : Int} {M : Mem} : fAdd (.d (.int i)) (.d (.int j)) M = .ok (.d (.int (i + j))) M := rfl
theorem fSub_ok {i j : Int} {M : Mem} : fSub (.d (.int i)) (.d (.int j)) M = .ok (.d (.int (i - j))) M := rfl
theorem fShl_ok {i j : Int} {M : Mem} (h : 0 ≤ j) (hj : j ≤ 1000) (hi : i.natAbs < 2 ^ 1000) : fShl (.d (.int i)) (.d (.int j)) M = .ok (.d (.int (i * 2 ^ j.toNat))) M := by
  have b := bits_le hi
  have : CShl i j := ⟨h, by
    have : (2 : Int) ^ 27 = 134217728 := by decide
    omega⟩
  simp only [fShl, fII, if_pos this]
theorem getI_nat {α : Type} (l : List α) (i : Nat) : getI l (i : Int) = l[i]? := by
  unfold getI
  rw [if_pos (by omega)]
  simp
theorem getI_pos {α : Type} {l : List α} {i : Int} (h : 0 ≤ i) : getI l i = l[i.toNat]? := by
  unfold getI
  rw [if_pos h]
/-- the thing that draws: its script, how many it has drawn -/
def dr (S : List Int) (c : Nat) : O := .lst [.d (.list (S.map .int)), .d (.int 0), .d (.int c)]
theorem dr_ok (S : List Int) (c n : Nat) : okO n (dr S c) := fun w hw => by
  simp only [List.mem_cons, List.not_mem_nil, or_false] at hw
  rcases hw with h | h | h <;> (subst h; trivial)
end By
namespace By
open PySem PySem.Spec PyProof.Rows L2
theorem hd {α : Type} {a b : α} (h : a = b) : a = b := h
def kSeq (u : DS) : Out → Mem → R Out := fun o M1 => match o with
  | .nx ρ1 => u ρ1 M1
  | .rt w => .ok (.rt w) M1
  | .bk ρ1 => .ok (.bk ρ1) M1
  | .ct ρ1 => .ok (.ct ρ1) M1
def kIfS (u v : DS) (ρ : Rho) : Bool → Mem → R Out := fun b M1 => if b = true then u ρ M1 else v ρ M1
def kB : W → Mem → R Bool := fun w M1 => match w with
  | .d (.bool b) => .ok b M1
  | _ => .bot
def kTup : List W → Mem → R W := fun ws M1 => match allD ws with
  | some ds => if ws.length ≤ 1000 then .ok (.d (.tuple ds)) M1 else .bot
  | none => .bot
def kLst : List W → Mem → R W := fun ws M1 => match allD ws with
  | some ds => if ws.length ≤ 1000 then .ok (.d (.list ds)) M1 else .bot
  | none => .bot
def kLstM : List W → Mem → R W := fun ws M1 => if ws.length ≤ 1000 then .ok (.r M1.length) (M1 ++ [.lst ws]) else .bot
def kOr (u : DT) (ρ : Rho) : Bool → Mem → R Bool := fun b M1 => if b = true then .ok true M1 else u ρ M1
def kAnd (u : DT) (ρ : Rho) : Bool → Mem → R Bool := fun b M1 => if b = true then u ρ M1 else .ok false M1
def kIf (ta tb : DE) (ρ : Rho) : Bool → Mem → R W := fun b M1 => if b = true then ta ρ M1 else tb ρ M1
def kSetI (ρ : Rho) (w o : W) : W → Mem → R Out := fun i M3 => match fSetI M3 o i w with
  | some M4 => .ok (.nx ρ) M4
  | none => .bot
def kRg1 : W → Mem → R (Int × Int) := fun w M1 => match w with
  | .d (.int n) => .ok (0, n) M1
  | _ => .bot
def kRg2 (u : W) : W → Mem → R (Int × Int) := fun w M2 => match u, w with
  | .d (.int i), .d (.int j) => .ok (i, j) M2
  | _, _ => .bot
def kRngI : Int × Int → Mem → R (List W × Gd) := fun p M1 => if okRg p.1 p.2 = true then .ok ((rgI p.1 p.2).map fun i => .d (.int i), none) M1 else .bot
def kListRg : Int × Int → Mem → R W := fun p M1 => if okRg p.1 p.2 = true then .ok (.d (.list ((rgI p.1 p.2).map .int))) M1 else .bot
def kSeqI : W → Mem → R (List W × Gd) := fun w M1 => match seqW M1 w with
  | some p => .ok p M1
  | none => .bot
noncomputable def kFor (tg : Tg) (b : DS) (ρ : Rho) : List W × Gd → Mem → R Out := fun p M1 => floop p.1 p.2 tg b p.1 ρ M1
def kPart : W → Mem → R (Option Int) := fun w M1 => match w with
  | .d (.int i) => .ok (some i) M1
  | _ => .bot
def kIsN (neg : Bool) : W → Mem → R Bool := fun w M1 => .ok (if neg then !isNW w else isNW w) M1
def kBM (f : W → List W → Mem → R W) (t : DA) (ρ : Rho) : W → Mem → R W := fun u M1 => if isLst M1 u = true then (t ρ M1).bind fun ws M2 => f u ws M2 else .bot
def kAug (i : Nat) (f : F2) (te : DE) (ρ : Rho) (M : Mem) : Option (Option W) → R Out := fun o => match o with
  | some (some u) => (te ρ M).bind fun w M1 => (f u w M1).bind fun r M2 => .ok (.nx (ρ.set i (some r))) M2
  | _ => .bot
def kLc : List W → Mem → R W := fun ws M1 => match allD ws with
  | some ds => if ws.length ≤ 1000000 then .ok (.d (.list ds)) M1 else .bot
  | none => .bot
section
variable {α β : Type} {t u : DS} {te tb to ti : DE} {ta : DA} {tt tu : DT} {tr : DR} {td : DI} {ρ : Rho} {M : Mem} {w v : W} {i : Nat}
theorem x_bind (a : α) (f : α → Mem → R β) : (R.ok a M).bind f = f a M := hd rfl
theorem x_seq : dSeq t u ρ M = (t ρ M).bind (kSeq u) := hd rfl
theorem x_nx {r : Rho} : kSeq u (.nx r) M = u r M := hd rfl
theorem x_rt : kSeq u (.rt w) M = .ok (.rt w) M := hd rfl
theorem x_set : dSet i te ρ M = (te ρ M).bind fun w M1 => .ok (.nx (ρ.set i (some w))) M1 := hd rfl
theorem x_st0 {x : Option W} {r : Rho} {y : Option W} : (x :: r).set 0 y = y :: r := hd rfl
theorem x_stS {x : Option W} {r : Rho} {y : Option W} : (x :: r).set (i + 1) y = x :: r.set i y := hd rfl
theorem x_v0 {r : Rho} : dVar 0 (some w :: r) M = .ok w M := hd rfl
theorem x_vS {x : Option W} {r : Rho} : dVar (i + 1) (x :: r) M = dVar i r M := hd rfl
theorem x_c (d : PyData) : dC d ρ M = .ok (.d d) M := hd rfl
theorem x_bin (f : F2) : dBin f te tb ρ M = (te ρ M).bind fun x M1 => (tb ρ M1).bind fun y M2 => f x y M2 := hd rfl
theorem x_un (f : F1) : dUn f te ρ M = (te ρ M).bind fun x M1 => f x M1 := hd rfl
theorem x_fl (f : FL) : dFL f ta ρ M = (ta ρ M).bind fun ws M1 => f ws M1 := hd rfl
theorem x_nil : dNil ρ M = .ok [] M := hd rfl
theorem x_cons : dCons te ta ρ M = (te ρ M).bind fun w M1 => (ta ρ M1).bind fun ws M2 => .ok (w :: ws) M2 := hd rfl
theorem x_ret : dRet te ρ M = (te ρ M).bind fun w M1 => .ok (.rt w) M1 := hd rfl
theorem x_skip : dSkip ρ M = .ok (.nx ρ) M := hd rfl
theorem x_expr : dExpr te ρ M = (te ρ M).bind fun _ M1 => .ok (.nx ρ) M1 := hd rfl
theorem x_ifs : dIfS tt t u ρ M = (tt ρ M).bind (kIfS t u ρ) := hd rfl
theorem x_ifT : kIfS t u ρ true M = t ρ M := hd rfl
theorem x_ifF : kIfS t u ρ false M = u ρ M := hd rfl
theorem x_if : dIf tt te tb ρ M = (tt ρ M).bind (kIf te tb ρ) := hd rfl
theorem x_ieT : kIf te tb ρ true M = te ρ M := hd rfl
theorem x_ieF : kIf te tb ρ false M = tb ρ M := hd rfl
theorem x_b : dB te ρ M = (te ρ M).bind kB := hd rfl
theorem x_kb {b : Bool} : kB (.d (.bool b)) M = .ok b M := hd rfl
theorem x_or : dOr tt tu ρ M = (tt ρ M).bind (kOr tu ρ) := hd rfl
theorem x_orT : kOr tu ρ true M = .ok true M := hd rfl
theorem x_orF : kOr tu ρ false M = tu ρ M := hd rfl
theorem x_and : dAnd tt tu ρ M = (tt ρ M).bind (kAnd tu ρ) := hd rfl
theorem x_andT : kAnd tu ρ true M = tu ρ M := hd rfl
theorem x_andF : kAnd tu ρ false M = .ok false M := hd rfl
theorem x_not : dNot tt ρ M = (tt ρ M).bind fun b M1 => .ok (!b) M1 := hd rfl
theorem x_yes : dYes ρ M = .ok true M := hd rfl
theorem x_isn {neg : Bool} : dIsN neg te ρ M = (te ρ M).bind (kIsN neg) := hd rfl
theorem x_isnN : kIsN false (.d .none) M = .ok true M := hd rfl
theorem x_isnI {j : Int} : kIsN false (.d (.int j)) M = .ok false M := hd rfl
theorem x_insN : kIsN true (.d .none) M = .ok false M := hd rfl
theorem x_insI {j : Int} : kIsN true (.d (.int j)) M = .ok true M := hd rfl
theorem x_tup : dTup ta ρ M = (ta ρ M).bind kTup := hd rfl
theorem x_ktup {ws : List W} {ds : List PyData} (h : allD ws = some ds) (hl : Nat.ble ws.length 1000 = true) : kTup ws M = .ok (.d (.tuple ds)) M := by
  unfold kTup
  rw [h]
  exact if_pos (Nat.le_of_ble_eq_true hl)
theorem x_tup1 {a : PyData} : kTup [.d a] M = .ok (.d (.tuple [a])) M := x_ktup rfl rfl
theorem x_tup2 {a b : PyData} : kTup [.d a, .d b] M = .ok (.d (.tuple [a, b])) M := x_ktup rfl rfl
theorem x_tup3 {a b c : PyData} : kTup [.d a, .d b, .d c] M = .ok (.d (.tuple [a, b, c])) M := x_ktup rfl rfl
theorem x_lst : dLst ta ρ M = (ta ρ M).bind kLst := hd rfl
theorem x_klst {ws : List W} {ds : List PyData} (h : allD ws = some ds) (hl : Nat.ble ws.length 1000 = true) : kLst ws M = .ok (.d (.list ds)) M := by
  unfold kLst
  rw [h]
  exact if_pos (Nat.le_of_ble_eq_true hl)
theorem x_lst0 : kLst [] M = .ok (.d (.list [])) M := x_klst rfl rfl
theorem x_lst1 {a : PyData} : kLst [.d a] M = .ok (.d (.list [a])) M := x_klst rfl rfl
theorem x_lst2 {a b : PyData} : kLst [.d a, .d b] M = .ok (.d (.list [a, b])) M := x_klst rfl rfl
theorem x_lst3 {a b c : PyData} : kLst [.d a, .d b, .d c] M = .ok (.d (.list [a, b, c])) M := x_klst rfl rfl
theorem x_lst4 {a b c d : PyData} : kLst [.d a, .d b, .d c, .d d] M = .ok (.d (.list [a, b, c, d])) M := x_klst rfl rfl
theorem x_lstM : dLstM ta ρ M = (ta ρ M).bind kLstM := hd rfl
theorem x_klstM {ws : List W} (hl : Nat.ble ws.length 1000 = true) : kLstM ws M = .ok (.r M.length) (M ++ [.lst ws]) := if_pos (Nat.le_of_ble_eq_true hl)
theorem x_lstM0 : kLstM [] M = .ok (.r M.length) (M ++ [.lst []]) := x_klstM rfl
theorem x_seti : dSetI te to ti ρ M = (te ρ M).bind fun w M1 => (to ρ M1).bind fun o M2 => (ti ρ M2).bind (kSetI ρ w o) := hd rfl
theorem x_rg1 : dRg1 te ρ M = (te ρ M).bind kRg1 := hd rfl
theorem x_krg1 {j : Int} : kRg1 (.d (.int j)) M = .ok (0, j) M := hd rfl
theorem x_rg2 : dRg2 te tb ρ M = (te ρ M).bind fun u M1 => (tb ρ M1).bind (kRg2 u) := hd rfl
theorem x_krg2 {a j : Int} : kRg2 (.d (.int a)) (.d (.int j)) M = .ok (a, j) M := hd rfl
theorem x_rngi : dRngI tr ρ M = (tr ρ M).bind kRngI := hd rfl
theorem x_krngi {a j : Int} (h : okRg a j = true) : kRngI (a, j) M = .ok ((rgI a j).map fun i => .d (.int i), none) M := if_pos h
theorem x_lrg : dListRg tr ρ M = (tr ρ M).bind kListRg := hd rfl
theorem x_seqi : dSeqI te ρ M = (te ρ M).bind kSeqI := hd rfl
theorem x_ksl {ds : List PyData} : kSeqI (.d (.list ds)) M = .ok (ds.map .d, none) M := hd rfl
theorem x_kst {ds : List PyData} : kSeqI (.d (.tuple ds)) M = .ok (ds.map .d, none) M := hd rfl
theorem x_ksr {k : Nat} {ws : List W} (h : M[k]? = some (.lst ws)) : kSeqI (.r k) M = .ok (ws, some (k, ws)) M := by
  unfold kSeqI seqW
  simp only [h]
theorem x_for {tg : Tg} : dFor td tg t ρ M = (td ρ M).bind (kFor tg t ρ) := hd rfl
theorem x_kfor {tg : Tg} {ws : List W} {g : Gd} : kFor tg t ρ (ws, g) M = floop ws g tg t ws ρ M := hd rfl
theorem x_part : dPart te ρ M = (te ρ M).bind kPart := hd rfl
theorem x_kpart {j : Int} : kPart (.d (.int j)) M = .ok (some j) M := hd rfl
theorem x_nopart : dNoPart ρ M = .ok none M := hd rfl
theorem x_sl {tl th : DO} : dSl te tl th ρ M = (te ρ M).bind fun w M1 => (tl ρ M1).bind fun lo M2 => (th ρ M2).bind fun hi M3 => fSl w lo hi M3 := hd rfl
theorem x_bm (f : W → List W → Mem → R W) : dBM f te ta ρ M = (te ρ M).bind (kBM f ta ρ) := hd rfl
theorem x_kbm (f : W → List W → Mem → R W) {k : Nat} {ws : List W} (h : M[k]? = some (.lst ws)) : kBM f ta ρ (.r k) M = (ta ρ M).bind fun us M2 => f (.r k) us M2 := by
  refine if_pos ?_
  show isLst M (.r k) = true
  unfold isLst
  simp only [h]
theorem x_app {k : Nat} {ws : List W} (h : M[k]? = some (.lst ws)) (hl : ws.length ≤ 1000000) : fAppend (.r k) [w] M = .ok (.d .none) (M.set k (.lst (ws ++ [w]))) := by
  unfold fAppend
  simp only [h, if_pos hl]
theorem x_aug {f : F2} : dAug i f te ρ M = kAug i f te ρ M ρ[i]? := hd rfl
theorem x_kaug {f : F2} : kAug i f te ρ M (some (some v)) = (te ρ M).bind fun w M1 => (f v w M1).bind fun r M2 => .ok (.nx (ρ.set i (some r))) M2 := hd rfl
theorem x_g0 {x : Option W} {r : Rho} : (x :: r)[0]? = some x := hd rfl
theorem x_gS {x : Option W} {r : Rho} : (x :: r)[i + 1]? = r[i]? := hd rfl
theorem x_lcw {tg : Tg} {vs : List Nat} : dLcW td tg tt te vs ρ M = (td ρ M).bind fun p M1 => cloop p.1 p.2 tg tt te (wipeR ρ vs) p.1 M1 := hd rfl
theorem x_lc {tg : Tg} {vs : List Nat} : dLc td tg tt te vs ρ M = (dLcW td tg tt te vs ρ M).bind kLc := hd rfl
theorem x_klc {ds : List PyData} (h : ds.length ≤ 1000000) : kLc (ds.map .d) M = .ok (.d (.list ds)) M := by
  unfold kLc
  rw [allD_map]
  exact if_pos (by rw [List.length_map]; exact h)
theorem x_add {a b : Int} : fAdd (.d (.int a)) (.d (.int b)) M = .ok (.d (.int (a + b))) M := hd rfl
theorem x_sub {a b : Int} : fSub (.d (.int a)) (.d (.int b)) M = .ok (.d (.int (a - b))) M := hd rfl
theorem x_and2 {a b : Int} : fAnd (.d (.int a)) (.d (.int b)) M = .ok (.d (.int (Builtin.bitAnd a b))) M := hd rfl
theorem x_or2 {a b : Int} : fOr (.d (.int a)) (.d (.int b)) M = .ok (.d (.int (Builtin.bitOr a b))) M := hd rfl
theorem x_xor2 {a b : Int} : fXor (.d (.int a)) (.d (.int b)) M = .ok (.d (.int (Builtin.bitXor a b))) M := hd rfl
theorem x_lt {a b : Int} : fLt (.d (.int a)) (.d (.int b)) M = .ok (.d (.bool (decide (a < b)))) M := hd rfl
theorem x_le {a b : Int} : fLe (.d (.int a)) (.d (.int b)) M = .ok (.d (.bool (decide (a ≤ b)))) M := hd rfl
theorem x_gt {a b : Int} : fGt (.d (.int a)) (.d (.int b)) M = .ok (.d (.bool (decide (b < a)))) M := hd rfl
theorem x_ge {a b : Int} : fGe (.d (.int a)) (.d (.int b)) M = .ok (.d (.bool (decide (b ≤ a)))) M := hd rfl
theorem x_int {a : Int} : fInt [.d (.int a)] M = .ok (.d (.int a)) M := hd rfl
theorem x_neg {a : Int} : fNeg (.d (.int a)) M = .ok (.d (.int (-a))) M := hd rfl
theorem x_cat {a b : Int} : fCat (.d (.int a)) (.d (.int b)) M = .ok (.d (.int (a + b))) M := hd rfl
theorem x_lenL {ds : List PyData} : fLen [.d (.list ds)] M = .ok (.d (.int ds.length)) M := hd rfl
theorem x_lenT {ds : List PyData} : fLen [.d (.tuple ds)] M = .ok (.d (.int ds.length)) M := hd rfl
theorem x_ixL {ds : List PyData} {j : Int} {d : PyData} (h : getI ds j = some d) : fIx (.d (.list ds)) (.d (.int j)) M = .ok (.d d) M := by
  unfold fIx
  simp only [h]
theorem x_ixT {ds : List PyData} {j : Int} {d : PyData} (h : getI ds j = some d) : fIx (.d (.tuple ds)) (.d (.int j)) M = .ok (.d d) M := by
  unfold fIx
  simp only [h]
theorem x_ixR {k : Nat} {ws : List W} {j : Int} (h : M[k]? = some (.lst ws)) (hj : getI ws j = some w) : fIx (.r k) (.d (.int j)) M = .ok w M := by
  unfold fIx
  simp only [h, hj]
theorem x_ksi {k : Nat} {ws ws' : List W} {j : Int} (h : M[k]? = some (.lst ws)) (hj : setI ws j v = some ws') : kSetI ρ v (.r k) (.d (.int j)) M = .ok (.nx ρ) (M.set k (.lst ws')) := by
  unfold kSetI fSetI
  simp only [h, hj, Option.map_some]
theorem x_dec {p : Prop} [Decidable p] (h : p) : decide p = true := decide_eq_true h
theorem x_decF {p : Prop} [Decidable p] (h : ¬p) : decide p = false := decide_eq_false h
end
end By
namespace By
open PySem PySem.Spec PyProof.Rows L2
inductive T where
  | nothing
  | empty
  | some (n : Nat)
  | row (a b : T)
  | many (q : Bool) (ts : List T)
  | not (a : T)
  | again (a : T)
theorem T.ind {P : T → Prop} (h1 : P .nothing) (h2 : P .empty) (h3 : ∀ n, P (.some n)) (h4 : ∀ a b, P a → P b → P (.row a b)) (h5 : ∀ q ts, (∀ t ∈ ts, P t) → P (.many q ts)) (h6 : ∀ a, P a → P (.not a)) (h7 : ∀ a, P a → P (.again a)) : ∀ t, P t
  | .nothing => h1
  | .empty => h2
  | .some n => h3 n
  | .row a b => h4 a b (T.ind h1 h2 h3 h4 h5 h6 h7 a) (T.ind h1 h2 h3 h4 h5 h6 h7 b)
  | .many q ts => h5 q ts fun t ht => T.ind h1 h2 h3 h4 h5 h6 h7 t
  | .not a => h6 a (T.ind h1 h2 h3 h4 h5 h6 h7 a)
  | .again a => h7 a (T.ind h1 h2 h3 h4 h5 h6 h7 a)
termination_by t => sizeOf t
decreasing_by all_goals (first | (have := List.sizeOf_lt_of_mem ht; simp; omega) | (simp; omega) | simp)
abbrev ni (n : Nat) : PyData := .int (n : Int)
def manyW (q : Bool) : Str := if q then "all of" else "any of"
mutual
def td : T → PyData
  | .nothing => .tuple [.str "nothing"]
  | .empty => .tuple [.str "empty"]
  | .some n => .tuple [.str "some", ni n]
  | .row a b => .tuple [.str "row", td a, td b]
  | .many q ts => .tuple [.str (manyW q), .tuple (tds ts)]
  | .not a => .tuple [.str "not", td a]
  | .again a => .tuple [.str "again", td a]
def tds : List T → List PyData
  | [] => []
  | t :: ts => td t :: tds ts
end
theorem tds_map (ts : List T) : tds ts = ts.map td := by
  induction ts with
  | nil => unfold tds; rfl
  | cons t ts ih => unfold tds; rw [ih, List.map_cons]
/-- a tree's word -/
def wd : T → Str
  | .nothing => "nothing"
  | .empty => "empty"
  | .some _ => "some"
  | .row _ _ => "row"
  | .many q _ => manyW q
  | .not _ => "not"
  | .again _ => "again"
/-- what stands behind the word -/
def tl : T → List PyData
  | .nothing => []
  | .empty => []
  | .some n => [ni n]
  | .row a b => [td a, td b]
  | .many _ ts => [.tuple (ts.map td)]
  | .not a => [td a]
  | .again a => [td a]
theorem td_eq (t : T) : td t = .tuple (.str (wd t) :: tl t) := by
  cases t with
  | many q ts => show PyData.tuple [.str (manyW q), .tuple (tds ts)] = _; rw [tds_map]; rfl
  | _ => rfl
mutual
def okT : T → Prop
  | .nothing => True
  | .empty => True
  | .some n => n < 2 ^ 256
  | .row a b => okT a ∧ okT b
  | .many _ ts => okTs ts
  | .not a => okT a
  | .again a => okT a
def okTs : List T → Prop
  | [] => True
  | t :: ts => okT t ∧ okTs ts
end
mutual
def wt : T → Nat
  | .nothing => 1
  | .empty => 1
  | .some _ => 1
  | .row a b => wt a + wt b
  | .many _ ts => max 1 (wts ts)
  | .not a => wt a
  | .again a => wt a
def wts : List T → Nat
  | [] => 0
  | t :: ts => wt t + wts ts
end
mutual
def dt : T → Nat
  | .nothing => 1
  | .empty => 1
  | .some _ => 1
  | .row a b => max (dt a) (dt b) + 1
  | .many _ ts => dts ts + 2
  | .not a => dt a + 1
  | .again a => dt a + 1
def dts : List T → Nat
  | [] => 0
  | t :: ts => max (dt t) (dts ts)
end
mutual
def pa : T → Nat
  | .nothing => 1
  | .empty => 1
  | .some _ => 1
  | .row a b => max (pa a) (pa b)
  | .many _ ts => max (max 1 ts.length) (pas ts)
  | .not a => pa a
  | .again a => pa a
def pas : List T → Nat
  | [] => 0
  | t :: ts => max (pa t) (pas ts)
end
def isRow : T → Bool
  | .row _ _ => true
  | _ => false
mutual
def vt : T → Nat
  | .nothing => 1
  | .empty => 1
  | .some _ => 1
  | .row a b => max (vt a + 2) (if isRow b = true then vt b else vt b + 2)
  | .many _ ts => vts ts + 2
  | .not a => vt a + 1
  | .again a => vt a + 1
def vts : List T → Nat
  | [] => 0
  | t :: ts => max (vt t) (vts ts)
end
theorem wt_many (q : Bool) (ts : List T) : wt (.many q ts) = max 1 (wts ts) := by conv => lhs; unfold wt
theorem dt_many (q : Bool) (ts : List T) : dt (.many q ts) = dts ts + 2 := by conv => lhs; unfold dt
theorem vt_many (q : Bool) (ts : List T) : vt (.many q ts) = vts ts + 2 := by conv => lhs; unfold vt
theorem okTs_all {ts : List T} : okTs ts ↔ ∀ t ∈ ts, okT t := by
  induction ts with
  | nil => unfold okTs; simp
  | cons t ts ih => unfold okTs; rw [ih]; simp
theorem wts_sum (ts : List T) : wts ts = (ts.map wt).sum := by
  induction ts with
  | nil => unfold wts; rfl
  | cons t ts ih => unfold wts; rw [ih]; rfl
theorem dts_le {ts : List T} {n : Nat} : dts ts ≤ n ↔ ∀ t ∈ ts, dt t ≤ n := by
  induction ts with
  | nil => unfold dts; simp
  | cons t ts ih => unfold dts; rw [Nat.max_le, ih]; simp
theorem pas_le {ts : List T} {n : Nat} : pas ts ≤ n ↔ ∀ t ∈ ts, pa t ≤ n := by
  induction ts with
  | nil => unfold pas; simp
  | cons t ts ih => unfold pas; rw [Nat.max_le, ih]; simp
theorem vts_le {ts : List T} {n : Nat} : vts ts ≤ n ↔ ∀ t ∈ ts, vt t ≤ n := by
  induction ts with
  | nil => unfold vts; simp
  | cons t ts ih => unfold vts; rw [Nat.max_le, ih]; simp
theorem wt_pos (t : T) : 1 ≤ wt t := by
  induction t using T.ind with
  | h1 => unfold wt; omega
  | h2 => unfold wt; omega
  | h3 n => unfold wt; omega
  | h4 a b ha hb => unfold wt; omega
  | h5 q ts h => unfold wt; omega
  | h6 a h => unfold wt; omega
  | h7 a h => unfold wt; omega
theorem pa_pos (t : T) : 1 ≤ pa t := by
  induction t using T.ind with
  | h1 => unfold pa; omega
  | h2 => unfold pa; omega
  | h3 n => unfold pa; omega
  | h4 a b ha hb => unfold pa; omega
  | h5 q ts h => unfold pa; omega
  | h6 a h => unfold pa; omega
  | h7 a h => unfold pa; omega
theorem depthAll_le {ds : List PyData} {n : Nat} : PyData.depthAll ds ≤ n ↔ ∀ d ∈ ds, d.depth ≤ n := by
  induction ds with
  | nil => unfold PyData.depthAll; simp
  | cons t ts ih => unfold PyData.depthAll; rw [Nat.max_le, ih]; simp
theorem plainAll_iff {ds : List PyData} : PyData.plainAll ds = true ↔ ∀ d ∈ ds, d.plain = true := by
  induction ds with
  | nil => unfold PyData.plainAll; simp
  | cons t ts ih => unfold PyData.plainAll; rw [Bool.and_eq_true, ih]; simp
theorem td_plain (t : T) : (td t).plain = true := by
  induction t using T.ind with
  | h1 => unfold td; rfl
  | h2 => unfold td; rfl
  | h3 n => unfold td; rfl
  | h4 a b ha hb => unfold td; simp only [PyData.plain, PyData.plainAll, ha, hb, Bool.and_self]
  | h5 q ts h =>
    unfold td
    simp only [PyData.plain, PyData.plainAll, Bool.true_and, Bool.and_true, tds_map]
    rw [plainAll_iff]
    intro d hd
    obtain ⟨t, h1, rfl⟩ := List.mem_map.mp hd
    exact h t h1
  | h6 a h => unfold td; simp only [PyData.plain, PyData.plainAll, h, Bool.and_self]
  | h7 a h => unfold td; simp only [PyData.plain, PyData.plainAll, h, Bool.and_self]
theorem shownAll_map (ds : List PyData) : PyData.shownAll ds = ds.map PyData.shown := by
  induction ds with
  | nil => unfold PyData.shownAll; rfl
  | cons t ts ih => unfold PyData.shownAll; rw [ih, List.map_cons]
def app : T → T → T
  | .row x y, b => .row x (app y b)
  | .nothing, b => .row .nothing b
  | .empty, b => .row .empty b
  | .some n, b => .row (.some n) b
  | .many q ts, b => .row (.many q ts) b
  | .not a, b => .row (.not a) b
  | .again a, b => .row (.again a) b
def pieces : T → List T
  | .row x y => x :: pieces y
  | .nothing => [.nothing]
  | .empty => [.empty]
  | .some n => [.some n]
  | .many q ts => [.many q ts]
  | .not a => [.not a]
  | .again a => [.again a]
structure Bd (w d p v : Nat) (t : T) : Prop where
  ok : okT t
  w : wt t ≤ w
  d : dt t ≤ d
  p : pa t ≤ p
  v : vt t ≤ v
theorem Bd.mono {w d p v w' d' p' v' : Nat} {t : T} (h : Bd w d p v t) (hw : w ≤ w') (hd : d ≤ d') (hp : p ≤ p') (hv : v ≤ v') : Bd w' d' p' v' t := ⟨h.ok, Nat.le_trans h.w hw, Nat.le_trans h.d hd, Nat.le_trans h.p hp, Nat.le_trans h.v hv⟩
theorem bd_nothing : Bd 1 1 1 1 .nothing := ⟨trivial, Nat.le_refl _, Nat.le_refl _, Nat.le_refl _, Nat.le_refl _⟩
theorem bd_some {n : Nat} (h : n < 2 ^ 256) : Bd 1 1 1 1 (.some n) := ⟨h, Nat.le_refl _, Nat.le_refl _, Nat.le_refl _, Nat.le_refl _⟩
theorem bd_not {a : T} {w d p v : Nat} (h : Bd w d p v a) : Bd w (d + 1) p (v + 1) (.not a) := ⟨h.ok, h.w, by have := h.d; show dt a + 1 ≤ _; omega, h.p, by have := h.v; show vt a + 1 ≤ _; omega⟩
theorem bd_many {q : Bool} {ts : List T} {w d p v : Nat} (h : ∀ t ∈ ts, okT t ∧ dt t ≤ d ∧ pa t ≤ p ∧ vt t ≤ v) (hw : wts ts ≤ w) (h1 : 1 ≤ w) (hl : ts.length ≤ p) (hp : 1 ≤ p) : Bd w (d + 2) p (v + 2) (.many q ts) := by
  refine ⟨?_, ?_, ?_, ?_, ?_⟩
  · unfold okT; exact okTs_all.mpr fun t ht => (h t ht).1
  · unfold wt; omega
  · unfold dt; have := (dts_le (ts := ts) (n := d)).mpr fun t ht => (h t ht).2.1; omega
  · unfold pa; have := (pas_le (ts := ts) (n := p)).mpr fun t ht => (h t ht).2.2.1; omega
  · unfold vt; have := (vts_le (ts := ts) (n := v)).mpr fun t ht => (h t ht).2.2.2; omega
end By
namespace By
open PySem PySem.Spec PyProof.Rows L2
def kTru : W → Mem → R Bool := fun w M1 => match truW M1 w with
  | some b => .ok b M1
  | none => .bot
def kAndV (tb : DE) (ρ : Rho) : W → Mem → R W := fun w M1 => match w with
  | .d (.bool b) => if b = true then tb ρ M1 else .ok (.d (.bool false)) M1
  | _ => .bot
def kRevI : W → Mem → R (List W × Gd) := fun w M1 => match revW M1 w with
  | some p => .ok p M1
  | none => .bot
def kRevR : Int × Int → Mem → R (List W × Gd) := fun p M1 => if okRg p.1 p.2 = true then .ok ((rgI p.1 p.2).reverse.map fun i => .d (.int i), none) M1 else .bot
def kEnumA : W → Mem → R (List W × Gd) := fun w M1 => match enumA M1 w with
  | some p => .ok p M1
  | none => .bot
def kLcM : List W → Mem → R W := fun ws M1 => if ws.length ≤ 1000000 then .ok (.r M1.length) (M1 ++ [.lst ws]) else .bot
def kAugI (ρ : Rho) (o i : W) : W → Mem → R Out := fun r M5 => match fSetI M5 o i r with
  | some M6 => .ok (.nx ρ) M6
  | none => .bot
section
variable {α β : Type} {t u : DS} {te tb to ti : DE} {ta : DA} {tt tu : DT} {tr : DR} {td' : DI} {ρ ρ1 ρ2 : Rho} {M M1 M2 : Mem} {w v : W} {i : Nat} {tg : Tg} {all ws : List W} {g : Gd} {c : DT}
theorem x_tru : dTru te ρ M = (te ρ M).bind kTru := hd rfl
theorem x_andv : dAndV te tb ρ M = (te ρ M).bind (kAndV tb ρ) := hd rfl
theorem x_andvT : kAndV tb ρ (.d (.bool true)) M = tb ρ M := hd rfl
theorem x_andvF : kAndV tb ρ (.d (.bool false)) M = .ok (.d (.bool false)) M := hd rfl
theorem x_revi : dRevI te ρ M = (te ρ M).bind kRevI := hd rfl
theorem x_krl {ds : List PyData} : kRevI (.d (.list ds)) M = .ok (ds.reverse.map .d, none) M := hd rfl
theorem x_revr : dRevR tr ρ M = (tr ρ M).bind kRevR := hd rfl
theorem x_enum : dEnumA te ρ M = (te ρ M).bind kEnumA := hd rfl
theorem x_kel {ds : List PyData} : kEnumA (.d (.list ds)) M = .ok (enumD ds, none) M := hd rfl
theorem x_ket {ds : List PyData} : kEnumA (.d (.tuple ds)) M = .ok (enumD ds, none) M := hd rfl
theorem x_lcm {vs : List Nat} : dLcM td' tg tt te vs ρ M = (dLcW td' tg tt te vs ρ M).bind kLcM := hd rfl
theorem x_klcm (h : ws.length ≤ 1000000) : kLcM ws M = .ok (.r M.length) (M ++ [.lst ws]) := if_pos h
theorem x_augi {f : F2} : dAugI to ti f te ρ M = (to ρ M).bind fun o M1 => (ti ρ M1).bind fun i M2 => (fIxM o i M2).bind fun x M3 => (te ρ M3).bind fun y M4 => (f x y M4).bind (kAugI ρ o i) := hd rfl
theorem x_fnot {b : Bool} : fNot (.d (.bool b)) M = .ok (.d (.bool (!b))) M := hd rfl
theorem x_inv {a : Int} : fInv (.d (.int a)) M = .ok (.d (.int (Builtin.bitNot a))) M := hd rfl
theorem x_tuL {ds : List PyData} : fTuple [.d (.list ds)] M = .ok (.d (.tuple ds)) M := hd rfl
theorem x_lenR {k : Nat} (h : M[k]? = some (.lst ws)) : fLen [.r k] M = .ok (.d (.int ws.length)) M := by
  unfold fLen
  simp only [h]
theorem x_slT {ds : List PyData} {lo hi : Option Int} : fSl (.d (.tuple ds)) lo hi M = .ok (.d (.tuple (cut ds lo hi))) M := hd rfl
theorem x_slL {ds : List PyData} {lo hi : Option Int} : fSl (.d (.list ds)) lo hi M = .ok (.d (.list (cut ds lo hi))) M := hd rfl
theorem x_eqD {neg : Bool} {d e : PyData} (h : okEq d e = true) : fEq neg (.d d) (.d e) M = .ok (.d (.bool (if neg then !PyData.eqv d e else PyData.eqv d e))) M := if_pos h
theorem x_eqS {a b : Str} : fEq false (.d (.str a)) (.d (.str b)) M = .ok (.d (.bool (a == b))) M := by
  rw [x_eqD (show okEq (.str a) (.str b) = true by simp [okEq, PyData.plain, PyData.depth])]
  unfold PyData.eqv
  rfl
theorem x_neS {a b : Str} : fEq true (.d (.str a)) (.d (.str b)) M = .ok (.d (.bool (!(a == b)))) M := by
  rw [x_eqD (show okEq (.str a) (.str b) = true by simp [okEq, PyData.plain, PyData.depth])]
  unfold PyData.eqv
  rfl
theorem x_eqI {a b : Int} : fEq false (.d (.int a)) (.d (.int b)) M = .ok (.d (.bool (decide (a = b)))) M := by
  rw [x_eqD (show okEq (.int a) (.int b) = true by simp [okEq, PyData.plain, PyData.depth])]
  unfold PyData.eqv
  rfl
theorem x_neB {a b : Bool} : fEq true (.d (.bool a)) (.d (.bool b)) M = .ok (.d (.bool (!(a == b)))) M := by
  rw [x_eqD (show okEq (.bool a) (.bool b) = true by simp [okEq, PyData.plain, PyData.depth])]
  unfold PyData.eqv
  rfl
theorem x_inT {neg : Bool} {d : PyData} {xs : List PyData} (h : okIn d xs = true) : fIn neg (.d d) (.d (.tuple xs)) M = .ok (.d (.bool (if neg then !(xs.any fun y => PyData.eqv y d) else xs.any fun y => PyData.eqv y d))) M := if_pos h
theorem x_inS2 {a b d : Str} : fIn false (.d (.str d)) (.d (.tuple [.str a, .str b])) M = .ok (.d (.bool (a == d || b == d))) M := by
  rw [x_inT (show okIn (.str d) [.str a, .str b] = true by simp [okIn, PyData.plain, PyData.plainAll, PyData.depth, PyData.depthAll])]
  simp only [List.any_cons, List.any_nil, Bool.or_false, PyData.eqv, Bool.false_eq_true, if_false]
theorem x_catL {xs ys : List PyData} (h : xs.length + ys.length ≤ 1000000) : fCat (.d (.list xs)) (.d (.list ys)) M = .ok (.d (.list (xs ++ ys))) M := if_pos h
theorem floop_end (hg : gOk g all M) : floop all g tg t [] ρ M = .ok (.nx ρ) M := by
  unfold floop
  exact if_pos hg
theorem floop_step (hg : gOk g all M) (h1 : tg.den w ρ = some ρ1) (h2 : t ρ1 M = .ok (.nx ρ2) M2) : floop all g tg t (w :: ws) ρ M = floop all g tg t ws ρ2 M2 := by
  conv => lhs; unfold floop
  rw [if_pos hg, h1]
  simp only [h2, bind_ok]
theorem floop_ret (hg : gOk g all M) (h1 : tg.den w ρ = some ρ1) (h2 : t ρ1 M = .ok (.rt v) M2) : floop all g tg t (w :: ws) ρ M = .ok (.rt v) M2 := by
  conv => lhs; unfold floop
  rw [if_pos hg, h1]
  simp only [h2, bind_ok]
theorem x_while {fu : Rho → Mem → Nat} : dWhile fu c t ρ M = wloop c t (fu ρ M) ρ M := hd rfl
theorem den_name {w : W} : Tg.den (.name i) w ρ = some (ρ.set i (some w)) := hd rfl
theorem last_at {o : O} : (M ++ [o])[M.length]? = some o := by simp
theorem last_set {o o' : O} : (M ++ [o]).set M.length o' = M ++ [o'] := by simp
end
theorem td_row (a b : T) : td (.row a b) = .tuple [.str "row", td a, td b] := by conv => lhs; unfold td
theorem td_not (a : T) : td (.not a) = .tuple [.str "not", td a] := by conv => lhs; unfold td
theorem td_again (a : T) : td (.again a) = .tuple [.str "again", td a] := by conv => lhs; unfold td
theorem td_some (n : Nat) : td (.some n) = .tuple [.str "some", ni n] := by conv => lhs; unfold td
theorem td_nothing : td .nothing = .tuple [.str "nothing"] := by unfold td; rfl
theorem td_empty : td .empty = .tuple [.str "empty"] := by unfold td; rfl
theorem td_many (q : Bool) (ts : List T) : td (.many q ts) = .tuple [.str (manyW q), .tuple (ts.map td)] := by rw [td_eq]; rfl
theorem x_word {t : T} {M : Mem} : fIx (.d (td t)) (.d (.int 0)) M = .ok (.d (.str (wd t))) M := by
  rw [td_eq]
  exact x_ixT rfl
theorem sw_nothing_nothing : (("nothing" : Str) == ("nothing" : Str)) = true := by decide +kernel
theorem sw_nothing_empty : (("nothing" : Str) == ("empty" : Str)) = false := by decide +kernel
theorem sw_nothing_not : (("nothing" : Str) == ("not" : Str)) = false := by decide +kernel
theorem sw_empty_nothing : (("empty" : Str) == ("nothing" : Str)) = false := by decide +kernel
theorem sw_empty_empty : (("empty" : Str) == ("empty" : Str)) = true := by decide +kernel
theorem sw_empty_not : (("empty" : Str) == ("not" : Str)) = false := by decide +kernel
theorem sw_some_nothing : (("some" : Str) == ("nothing" : Str)) = false := by decide +kernel
theorem sw_some_empty : (("some" : Str) == ("empty" : Str)) = false := by decide +kernel
theorem sw_some_not : (("some" : Str) == ("not" : Str)) = false := by decide +kernel
theorem sw_row_nothing : (("row" : Str) == ("nothing" : Str)) = false := by decide +kernel
theorem sw_row_empty : (("row" : Str) == ("empty" : Str)) = false := by decide +kernel
theorem sw_row_not : (("row" : Str) == ("not" : Str)) = false := by decide +kernel
theorem sw_anyof_nothing : (("any of" : Str) == ("nothing" : Str)) = false := by decide +kernel
theorem sw_anyof_empty : (("any of" : Str) == ("empty" : Str)) = false := by decide +kernel
theorem sw_anyof_not : (("any of" : Str) == ("not" : Str)) = false := by decide +kernel
theorem sw_allof_nothing : (("all of" : Str) == ("nothing" : Str)) = false := by decide +kernel
theorem sw_allof_empty : (("all of" : Str) == ("empty" : Str)) = false := by decide +kernel
theorem sw_allof_not : (("all of" : Str) == ("not" : Str)) = false := by decide +kernel
theorem sw_not_nothing : (("not" : Str) == ("nothing" : Str)) = false := by decide +kernel
theorem sw_not_empty : (("not" : Str) == ("empty" : Str)) = false := by decide +kernel
theorem sw_again_nothing : (("again" : Str) == ("nothing" : Str)) = false := by decide +kernel
theorem sw_again_empty : (("again" : Str) == ("empty" : Str)) = false := by decide +kernel
theorem sw_again_not : (("again" : Str) == ("not" : Str)) = false := by decide +kernel
theorem eqv_word {t u : T} (h : (wd t == wd u) = false) : PyData.eqv (td t) (td u) = false := by
  rw [td_eq, td_eq]
  simp only [PyData.eqv, PyData.eqvAll, h, Bool.false_and]
theorem okEq_l {d e : PyData} (h1 : d.plain = true) (h2 : e.plain = true) (h3 : e.depth ≤ 150) : okEq d e = true := by
  unfold okEq
  rw [h1, h2, decide_eq_true (by omega)]
  rfl
end By
namespace By
open PySem PySem.Spec PyProof.Rows L2
theorem floop_fold {σ γ : Type} {tg : Tg} {body : DS} {all : List W} {g : Gd} (st : σ → Rho) (mm : σ → Mem) (inj : γ → W) (f : σ → γ → σ) (I : σ → Prop) (P : γ → Prop)
    (hg : ∀ s, I s → gOk g all (mm s)) (hs : ∀ s x, I s → P x → I (f s x) ∧ ∃ ρ1, tg.den (inj x) (st s) = some ρ1 ∧ body ρ1 (mm s) = .ok (.nx (st (f s x))) (mm (f s x))) :
    ∀ (xs : List γ) (s : σ), I s → (∀ x ∈ xs, P x) → floop all g tg body (xs.map inj) (st s) (mm s) = .ok (.nx (st (xs.foldl f s))) (mm (xs.foldl f s)) ∧ I (xs.foldl f s)
  | [], s, h, _ => ⟨floop_end (hg s h), h⟩
  | x :: xs, s, h, hp => by
    obtain ⟨h1, ρ1, h2, h3⟩ := hs s x h (hp x List.mem_cons_self)
    rw [List.map_cons, floop_step (hg s h) h2 h3]
    exact floop_fold st mm inj f I P hg hs xs (f s x) h1 fun y hy => hp y (List.mem_cons_of_mem _ hy)
theorem cloop_map {γ : Type} {all : List W} {g : Gd} {tg : Tg} {c : DT} {te : DE} {ρ0 : Rho} {M : Mem} (inj : γ → W) (p : γ → Bool) (f : γ → W) (hg : gOk g all M) :
    ∀ (xs : List γ), (∀ x ∈ xs, ∃ ρ1, tg.den (inj x) ρ0 = some ρ1 ∧ c ρ1 M = .ok (p x) M ∧ (p x = true → te ρ1 M = .ok (f x) M)) → cloop all g tg c te ρ0 (xs.map inj) M = .ok ((xs.filter p).map f) M
  | [], _ => by
    rw [List.map_nil]
    unfold cloop
    rw [if_pos hg]
    rfl
  | x :: xs, h => by
    obtain ⟨ρ1, h1, h2, h3⟩ := h x List.mem_cons_self
    have ih := cloop_map inj p f hg xs fun y hy => h y (List.mem_cons_of_mem _ hy)
    rw [List.map_cons]
    conv => lhs; unfold cloop
    rw [if_pos hg, h1]
    simp only [h2, noEx, bind_ok]
    cases hp : p x with
    | true => simp only [if_true, h3 hp, bind_ok, ih, List.filter_cons, hp, List.map_cons]
    | false => simp only [Bool.false_eq_true, if_false, ih, List.filter_cons, hp]
theorem filter_true {α : Type} (l : List α) : l.filter (fun _ => true) = l := by simp
def isNo : T → Bool
  | .nothing => true
  | _ => false
def isEm : T → Bool
  | .empty => true
  | _ => false
def isSome : T → Bool
  | .some _ => true
  | _ => false
def setT : T → Nat
  | .some n => n
  | _ => 0
def rowT (a b : T) : T := if isNo a || isNo b then .nothing else if isEm a then b else if isEm b then a else app a b
def someT (n : Nat) : T := if n = 0 then .nothing else .some n
def isNot : T → Bool
  | .not _ => true
  | _ => false
def butT : T → T
  | .not a => a
  | t => .not t
def isAgain : T → Bool
  | .again _ => true
  | _ => false
def againT (a : T) : T := if isNo a || isEm a then .empty else if isAgain a then a else .again a
def apart (q : Bool) : T → List T
  | .many r ts => if r = q then ts else [.many r ts]
  | t => [t]
def kp (q : Bool) (u : T) : List T → T
  | [] => u
  | [t] => t
  | a :: b :: r => .many q (a :: b :: r)
theorem eqv_no (t : T) : PyData.eqv (td t) (.tuple [.str "nothing"]) = isNo t := by
  rw [← td_nothing]
  cases t with
  | many q ts => cases q; exact eqv_word sw_anyof_nothing; exact eqv_word sw_allof_nothing
  | nothing =>
    rw [td_nothing]
    simp only [PyData.eqv, PyData.eqvAll, sw_nothing_nothing, Bool.and_self]
    rfl
  | empty => exact eqv_word sw_empty_nothing
  | some n => exact eqv_word sw_some_nothing
  | row a b => exact eqv_word sw_row_nothing
  | not a => exact eqv_word sw_not_nothing
  | again a => exact eqv_word sw_again_nothing
theorem eqv_em (t : T) : PyData.eqv (td t) (.tuple [.str "empty"]) = isEm t := by
  rw [← td_empty]
  cases t with
  | many q ts => cases q; exact eqv_word sw_anyof_empty; exact eqv_word sw_allof_empty
  | nothing => exact eqv_word sw_nothing_empty
  | empty =>
    rw [td_empty]
    simp only [PyData.eqv, PyData.eqvAll, sw_empty_empty, Bool.and_self]
    rfl
  | some n => exact eqv_word sw_some_empty
  | row a b => exact eqv_word sw_row_empty
  | not a => exact eqv_word sw_not_empty
  | again a => exact eqv_word sw_again_empty
section
variable {M : Mem} {t : T}
theorem eq_no : fEq false (.d (td t)) (.d (.tuple [.str "nothing"])) M = .ok (.d (.bool (isNo t))) M := by
  rw [x_eqD (okEq_l (td_plain t) rfl (Nat.le_of_ble_eq_true rfl)), eqv_no]
  rfl
theorem eq_em : fEq false (.d (td t)) (.d (.tuple [.str "empty"])) M = .ok (.d (.bool (isEm t))) M := by
  rw [x_eqD (okEq_l (td_plain t) rfl (Nat.le_of_ble_eq_true rfl)), eqv_em]
  rfl
end
def inits : T → List T
  | .row x y => x :: inits y
  | _ => []
def lastT : T → T
  | .row _ y => lastT y
  | t => t
def putA (al : List (Str × T)) (s : Str) (t : T) : List (Str × T) := if (al.any fun p => decide (p.1 = s)) = true then al.map (fun p => if p.1 = s then (p.1, t) else p) else al ++ [(s, t)]
def kvA (al : List (Str × T)) : List (Key × W) := al.map fun p => (Sum.inr p.1, W.d (td p.2))
def wal (al : List (Str × T)) : Nat := (al.map fun p => wt p.2).sum
structure Al (al : List (Str × T)) (ts : List T) : Prop where
  nd : (al.map (·.1)).Nodup
  key : ∀ p ∈ al, p.2 ∈ ts ∧ (td p.2).shown = p.1
  got : ∀ t ∈ ts, ∃ p ∈ al, p.1 = (td t).shown
  len : al.length ≤ ts.length
  w : wal al ≤ wts ts
theorem putA_keys (al : List (Str × T)) (s : Str) (t : T) : (putA al s t).map (·.1) = if (al.any fun p => decide (p.1 = s)) = true then al.map (·.1) else al.map (·.1) ++ [s] := by
  unfold putA
  split
  · rw [List.map_map]
    apply List.map_congr_left
    intro p _
    show (if p.1 = s then (p.1, t) else p).1 = p.1
    split <;> rfl
  · rw [List.map_append]
    rfl
theorem wts_app (a b : List T) : wts (a ++ b) = wts a + wts b := by rw [wts_sum, wts_sum, wts_sum, List.map_append, List.sum_append]
theorem wal_map {s : Str} {t : T} : ∀ {al : List (Str × T)}, (al.map (·.1)).Nodup → wal (al.map fun p => if p.1 = s then (p.1, t) else p) ≤ wal al + wt t
  | [], _ => by unfold wal; simp
  | p :: al, h => by
    have h2 := List.nodup_cons.mp h
    have ih := wal_map (s := s) (t := t) h2.2
    by_cases hp : p.1 = s
    · have e : (al.map fun p => if p.1 = s then (p.1, t) else p) = al := by
        conv => rhs; rw [← List.map_id al]
        apply List.map_congr_left
        intro q hq
        rw [if_neg]
        · rfl
        · intro e
          apply h2.1
          show p.1 ∈ _
          rw [hp, ← e]
          exact List.mem_map_of_mem hq
      rw [List.map_cons, e, if_pos hp]
      unfold wal
      simp only [List.map_cons, List.sum_cons]
      omega
    · rw [List.map_cons, if_neg hp]
      unfold wal at ih ⊢
      simp only [List.map_cons, List.sum_cons]
      omega
theorem Al.put {al : List (Str × T)} {ts : List T} (h : Al al ts) (t : T) : Al (putA al (td t).shown t) (ts ++ [t]) := by
  have hk := putA_keys al (td t).shown t
  refine ⟨?_, ?_, ?_, ?_, ?_⟩
  · rw [hk]
    split
    · exact h.nd
    · rename_i hn
      refine List.nodup_append.mpr ⟨h.nd, by simp, fun a ha b hb => ?_⟩
      rw [List.mem_singleton.mp hb]
      intro e
      apply hn
      obtain ⟨p, hp, rfl⟩ := List.mem_map.mp ha
      exact List.any_eq_true.mpr ⟨p, hp, decide_eq_true e⟩
  · intro p hp
    unfold putA at hp
    split at hp
    · obtain ⟨r, hr, rfl⟩ := List.mem_map.mp hp
      split
      · rename_i e
        exact ⟨List.mem_append_right _ List.mem_cons_self, e.symm⟩
      · exact ⟨List.mem_append_left _ (h.key r hr).1, (h.key r hr).2⟩
    · rcases List.mem_append.mp hp with q | q
      · exact ⟨List.mem_append_left _ (h.key p q).1, (h.key p q).2⟩
      · rw [List.mem_singleton.mp q]
        exact ⟨List.mem_append_right _ List.mem_cons_self, rfl⟩
  · intro u hu
    have key : (td u).shown ∈ (putA al (td t).shown t).map (·.1) := by
      rw [hk]
      rcases List.mem_append.mp hu with q | q
      · obtain ⟨p, hp, e⟩ := h.got u q
        have m : (td u).shown ∈ al.map (·.1) := e ▸ List.mem_map_of_mem hp
        split
        · exact m
        · exact List.mem_append_left _ m
      · rw [List.mem_singleton.mp q]
        split
        · rename_i e
          obtain ⟨p, hp, e⟩ := List.any_eq_true.mp e
          exact of_decide_eq_true e ▸ List.mem_map_of_mem hp
        · exact List.mem_append_right _ List.mem_cons_self
    obtain ⟨p, hp, e⟩ := List.mem_map.mp key
    exact ⟨p, hp, e⟩
  · have := h.len
    unfold putA
    split
    · rw [List.length_map, List.length_append]; omega
    · rw [List.length_append, List.length_append]; simp only [List.length_singleton]; omega
  · have := h.w
    rw [wts_app]
    have e1 : wts [t] = wt t := by rw [wts_sum]; simp
    unfold putA
    split
    · have := wal_map (s := (td t).shown) (t := t) h.nd
      omega
    · have e2 : wal (al ++ [((td t).shown, t)]) = wal al + wt t := by unfold wal; rw [List.map_append, List.sum_append]; simp
      omega
theorem Al.nil : Al [] [] := ⟨by simp, by simp, by simp, by simp, by unfold wal; simp⟩
end By
namespace By
open PySem PySem.Spec PyProof.Rows L2
structure Put (u : T) (ts ks : List T) : Prop where
  mem : ∀ t ∈ ks, t ∈ ts ∧ PyData.eqv (td t) (td u) = false
  got : ∀ t ∈ ts, PyData.eqv (td t) (td u) = false → ∃ t' ∈ ks, (td t').shown = (td t).shown
  nd : (ks.map fun t => (td t).shown).Nodup
  asc : (ks.map fun t => (td t).shown).Pairwise fun a b => leS a b = true
  len : ks.length ≤ (ts.filter fun t => !PyData.eqv (td t) (td u)).length
  w : wts ks ≤ wts (ts.filter fun t => !PyData.eqv (td t) (td u))
theorem tupG_ok {γ : Type} {P : Addr} {ti : DI} {tg : Tg} {c : DT} {te : DE} {vs : List Nat} {ρ : Rho} {M : Mem} {g : Gd} (inj : γ → W) (f : γ → PyData) (xs : List γ) (hti : ti ρ M = .ok (xs.map inj, g) M) (hP : O.tbl P ∈ M) (hg : gOk g (xs.map inj) M) (hl : xs.length ≤ 1000000)
    (hs : ∀ x ∈ xs, ∃ ρ1, tg.den (inj x) (wipeR ρ vs) = some ρ1 ∧ c ρ1 M = .ok true M ∧ te ρ1 M = .ok (.d (f x)) M) : dTupG P ti tg c te vs ρ M = .ok (.d (.tuple (xs.map f))) M := by
  unfold dTupG dGc
  rw [hti, bind_ok, if_pos hP]
  rw [cloop_map inj (fun _ => true) (fun x => W.d (f x)) hg xs fun x hx => by
    obtain ⟨ρ1, h1, h2, h3⟩ := hs x hx
    exact ⟨ρ1, h1, h2, fun _ => h3⟩]
  rw [filter_true]
  show finT (xs.map fun x => W.d (f x)) M = _
  have e : (xs.map fun x => W.d (f x)) = (xs.map f).map W.d := by rw [List.map_map]; rfl
  unfold finT
  rw [e, allD_map]
  exact if_pos (by rw [List.length_map, List.length_map]; exact hl)
theorem wts_cons (t : T) (ts : List T) : wts (t :: ts) = wt t + wts ts := by conv => lhs; unfold wts
theorem wts_filter (p : T → Bool) (ts : List T) : wts (ts.filter p) ≤ wts ts := by
  induction ts with
  | nil => exact Nat.le_refl _
  | cons t ts ih =>
    rw [List.filter_cons]
    split
    · rw [wts_cons, wts_cons]
      omega
    · rw [wts_cons]
      omega
def flat (q : Bool) (ts : List T) : List T := ts.flatMap (apart q)
theorem Put.bd {q : Bool} {u : T} {ts ks : List T} {w d p v : Nat} (h : Put u ts ks) (hu : Bd w d p v u) (ht : ∀ t ∈ ts, okT t ∧ dt t ≤ d ∧ pa t ≤ p ∧ vt t ≤ v) (hw : wts (ts.filter fun t => !PyData.eqv (td t) (td u)) ≤ w) (hl : (ts.filter fun t => !PyData.eqv (td t) (td u)).length ≤ p) : Bd w (d + 2) p (v + 2) (kp q u ks) := by
  have hw1 : 1 ≤ w := Nat.le_trans (wt_pos u) hu.w
  have hp1 : 1 ≤ p := Nat.le_trans (pa_pos u) hu.p
  have kk : ∀ t ∈ ks, okT t ∧ dt t ≤ d ∧ pa t ≤ p ∧ vt t ≤ v := fun t m => ht t (h.mem t m).1
  have h1 := h.w
  have h2 := h.len
  match ks, kk, h1, h2 with
  | [], _, _, _ => exact hu.mono (Nat.le_refl _) (by omega) (Nat.le_refl _) (by omega)
  | [t], kk, h1, _ =>
    obtain ⟨a, b, c, e⟩ := kk t List.mem_cons_self
    have : wts [t] = wt t := by rw [wts_sum]; simp
    exact ⟨a, by show wt t ≤ w; omega, by show dt t ≤ _; omega, c, by show vt t ≤ _; omega⟩
  | a :: b :: r, kk, h1, h2 => exact bd_many kk (by omega) hw1 (by omega) hp1
theorem apart_bd {q : Bool} {t : T} {w d p v : Nat} (h : Bd w d p v t) : (∀ x ∈ apart q t, okT x ∧ dt x ≤ d ∧ pa x ≤ p ∧ vt x ≤ v) ∧ wts (apart q t) ≤ wt t ∧ (apart q t).length ≤ pa t := by
  have one : ∀ t : T, Bd w d p v t → (∀ x ∈ [t], okT x ∧ dt x ≤ d ∧ pa x ≤ p ∧ vt x ≤ v) ∧ wts [t] ≤ wt t ∧ [t].length ≤ pa t := fun t h => by
    refine ⟨fun x hx => ?_, ?_, pa_pos t⟩
    · rw [List.mem_singleton.mp hx]
      exact ⟨h.ok, h.d, h.p, h.v⟩
    · rw [wts_sum]; simp
  cases t with
  | many r ts =>
    by_cases e : r = q
    · rw [show apart q (.many r ts) = ts from if_pos e]
      obtain ⟨h1, h2, h3, h4, h5⟩ := h
      have e4 : pa (.many r ts) = max (max 1 ts.length) (pas ts) := by conv => lhs; unfold pa
      rw [dt_many] at h3
      rw [vt_many] at h5
      unfold okT at h1
      have q1 := okTs_all.mp h1
      have q2 := (dts_le (ts := ts)).mp (Nat.le_refl _)
      have q3 := (pas_le (ts := ts)).mp (Nat.le_refl _)
      have q4 := (vts_le (ts := ts)).mp (Nat.le_refl _)
      refine ⟨fun x hx => ⟨q1 x hx, ?_, ?_, ?_⟩, ?_, ?_⟩
      · have := q2 x hx; omega
      · have := q3 x hx; omega
      · have := q4 x hx; omega
      · rw [wt_many]; omega
      · omega
    · rw [show apart q (.many r ts) = [.many r ts] from if_neg e]
      exact one _ h
  | nothing => exact one _ h
  | empty => exact one _ h
  | some n => exact one _ h
  | row a b => exact one _ h
  | not a => exact one _ h
  | again a => exact one _ h
def psum (ts : List T) : Nat := (ts.map pa).sum
theorem flat_bd {q : Bool} : ∀ {ts : List T} {d p v : Nat}, (∀ t ∈ ts, okT t ∧ dt t ≤ d ∧ pa t ≤ p ∧ vt t ≤ v) → (∀ x ∈ flat q ts, okT x ∧ dt x ≤ d ∧ pa x ≤ p ∧ vt x ≤ v) ∧ wts (flat q ts) ≤ wts ts ∧ (flat q ts).length ≤ psum ts
  | [], d, p, v, _ => ⟨by unfold flat; simp, by unfold flat; simp [wts_sum], by unfold flat; simp⟩
  | t :: ts, d, p, v, h => by
    obtain ⟨a1, a2, a3, a4⟩ := h t List.mem_cons_self
    obtain ⟨h1, h2, h3⟩ := apart_bd (q := q) (t := t) ⟨a1, Nat.le_refl _, a2, a3, a4⟩
    obtain ⟨h4, h5, h6⟩ := flat_bd (q := q) fun x hx => h x (List.mem_cons_of_mem _ hx)
    have e : flat q (t :: ts) = apart q t ++ flat q ts := by unfold flat; rw [List.flatMap_cons]
    rw [e]
    refine ⟨fun x hx => ?_, ?_, ?_⟩
    · rcases List.mem_append.mp hx with m | m
      · exact h1 x m
      · exact h4 x m
    · rw [wts_app]
      have : wts (t :: ts) = wt t + wts ts := by conv => lhs; unfold wts
      omega
    · rw [List.length_append]
      have : psum (t :: ts) = pa t + psum ts := rfl
      omega
theorem apart_len (q : Bool) (t : T) : (apart q t).length ≤ pa t := by
  cases t with
  | many r ts =>
    have e4 : pa (.many r ts) = max (max 1 ts.length) (pas ts) := by conv => lhs; unfold pa
    by_cases e : r = q
    · rw [show apart q (.many r ts) = ts from if_pos e]
      omega
    · rw [show apart q (.many r ts) = [.many r ts] from if_neg e]
      show 1 ≤ _
      omega
  | _ => exact pa_pos _
def isEvery (t : T) : Bool := PyData.eqv (td t) (.tuple [.str "not", .tuple [.str "nothing"]])
def oth (ts : List T) : List T := ts.filter fun t => !isSome t
def sts (ts : List T) : List Nat := (ts.filter isSome).map setT
def unionT (ts : List T) : Nat := (sts ts).foldl (fun m n => m ||| n) 0
def meetT (ts : List T) : Nat := (sts ts).foldl (fun m n => m &&& n) (2 ^ 256 - 1)
abbrev every : T := .not .nothing
structure AnyOf (ts : List T) (t : T) : Prop where
  is : (((flat false ts).any isEvery) = true ∧ t = every) ∨ (((flat false ts).any isEvery) = false ∧ ∃ ks, Put .nothing (oth (flat false ts) ++ [someT (unionT (flat false ts))]) ks ∧ t = kp false .nothing ks)
def allP (ts : List T) : List T := oth (flat true ts) ++ (if (sts (flat true ts)).isEmpty then [] else [someT (meetT (flat true ts))])
structure AllOf (ts : List T) (t : T) : Prop where
  is : (((allP ts).any isNo) = true ∧ t = .nothing) ∨ (((allP ts).any isNo) = false ∧ ∃ ks, Put every (allP ts) ks ∧ t = kp true every ks)
theorem foldl_or_lt : ∀ (ns : List Nat) (m : Nat), m < 2 ^ 256 → (∀ n ∈ ns, n < 2 ^ 256) → ns.foldl (fun m n => m ||| n) m < 2 ^ 256
  | [], m, h, _ => h
  | n :: ns, m, h, hn => foldl_or_lt ns (m ||| n) (Nat.or_lt_two_pow h (hn n List.mem_cons_self)) fun x hx => hn x (List.mem_cons_of_mem _ hx)
theorem foldl_and_lt : ∀ (ns : List Nat) (m : Nat), m < 2 ^ 256 → ns.foldl (fun m n => m &&& n) m < 2 ^ 256
  | [], m, h => h
  | n :: ns, m, h => foldl_and_lt ns (m &&& n) (Nat.lt_of_le_of_lt Nat.and_le_left h)
theorem sts_lt {ts : List T} (h : ∀ t ∈ ts, okT t) : ∀ n ∈ sts ts, n < 2 ^ 256 := fun n hn => by
  unfold sts at hn
  obtain ⟨t, ht, rfl⟩ := List.mem_map.mp hn
  have h1 := List.mem_filter.mp ht
  have h2 := h t h1.1
  cases t with
  | some n => exact h2
  | _ => cases h1.2
theorem union_lt {ts : List T} (h : ∀ t ∈ ts, okT t) : unionT ts < 2 ^ 256 := foldl_or_lt _ 0 (Nat.pow_pos (by decide)) (sts_lt h)
theorem meet_lt (ts : List T) : meetT ts < 2 ^ 256 := foldl_and_lt _ _ (Nat.sub_lt (Nat.pow_pos (by decide)) (by decide))
theorem someT_bd {n : Nat} (h : n < 2 ^ 256) : Bd 1 1 1 1 (someT n) := by
  unfold someT
  split
  · exact bd_nothing
  · exact bd_some h
theorem oth_bd {ts : List T} {d p v : Nat} (h : ∀ t ∈ ts, okT t ∧ dt t ≤ d ∧ pa t ≤ p ∧ vt t ≤ v) : (∀ t ∈ oth ts, okT t ∧ dt t ≤ d ∧ pa t ≤ p ∧ vt t ≤ v) ∧ wts (oth ts) + (sts ts).length ≤ wts ts ∧ (oth ts).length + (sts ts).length = ts.length := by
  refine ⟨fun t m => h t (List.mem_filter.mp m).1, ?_, ?_⟩
  · clear h
    induction ts with
    | nil => exact Nat.le_refl _
    | cons t ts ih =>
      unfold oth sts at ih ⊢
      rw [List.filter_cons, List.filter_cons, wts_cons]
      have := wt_pos t
      cases q : isSome t with
      | true => simp only [Bool.not_true, Bool.false_eq_true, if_false, if_true, List.map_cons, List.length_cons]; omega
      | false => simp only [Bool.not_false, Bool.false_eq_true, if_false, if_true, wts_cons]; omega
  · clear h
    induction ts with
    | nil => rfl
    | cons t ts ih =>
      unfold oth sts at ih ⊢
      rw [List.filter_cons, List.filter_cons]
      cases q : isSome t with
      | true => simp only [Bool.not_true, Bool.false_eq_true, if_false, if_true, List.map_cons, List.length_cons]; omega
      | false => simp only [Bool.not_false, Bool.false_eq_true, if_false, if_true, List.length_cons]; omega
theorem every_bd : Bd 1 2 1 2 every := bd_not bd_nothing
theorem filter_oth {u : T} (A : List T) (n : Nat) (z : Bool) : wts ((A ++ (if z then [] else [someT n])).filter fun t => !PyData.eqv (td t) (td u)) ≤ wts A + 1 ∧ ((A ++ (if z then [] else [someT n])).filter fun t => !PyData.eqv (td t) (td u)).length ≤ A.length + 1 := by
  have h1 := wts_filter (fun t => !PyData.eqv (td t) (td u)) (A ++ (if z then [] else [someT n]))
  have h2 := List.length_filter_le (fun t => !PyData.eqv (td t) (td u)) (A ++ (if z then [] else [someT n]))
  have e1 : wts [someT n] ≤ 1 := by
    rw [wts_cons]
    have : wts [] = 0 := by rw [wts_sum]; rfl
    unfold someT
    split <;> (show _ + _ ≤ 1; first | (have : wt .nothing = 1 := rfl; omega) | (have : wt (.some n) = 1 := rfl; omega))
  have e2 : wts [] = 0 := by rw [wts_sum]; rfl
  rw [wts_app] at h1
  rw [List.length_append] at h2
  cases z with
  | true => simp only [if_true, List.length_nil] at h1 h2 ⊢; omega
  | false => simp only [Bool.false_eq_true, if_false, List.length_singleton] at h1 h2 ⊢; omega
theorem filter_no (A : List T) : (A ++ [T.nothing]).filter (fun t => !PyData.eqv (td t) (td .nothing)) = A.filter (fun t => !PyData.eqv (td t) (td .nothing)) := by
  have : PyData.eqv (td .nothing) (td .nothing) = true := by rw [td_nothing, ← td_nothing]; conv => lhs; arg 2; rw [td_nothing]
                                                             exact eqv_no .nothing
  rw [List.filter_append, List.filter_cons, if_neg (by rw [this]; decide)]
  simp
/-- how big any of is -/
theorem AnyOf.bd {ts : List T} {t : T} {w d p v : Nat} (h : AnyOf ts t) (ht : ∀ t ∈ ts, okT t ∧ dt t ≤ d ∧ pa t ≤ p ∧ vt t ≤ v) (hw : wts ts ≤ w) (hp : psum ts ≤ p) (hd : 1 ≤ d) (hv : 1 ≤ v) (hw1 : 1 ≤ w) (hp1 : 1 ≤ p) : Bd w (d + 2) p (v + 2) t := by
  obtain ⟨f1, f2, f3⟩ := flat_bd (q := false) ht
  obtain ⟨o1, o2, o3⟩ := oth_bd f1
  rcases h.is with ⟨_, rfl⟩ | ⟨_, ks, hk, rfl⟩
  · exact every_bd.mono (by omega) (by omega) (by omega) (by omega)
  · have sb := someT_bd (union_lt fun t m => (f1 t m).1)
    have hin : ∀ x ∈ oth (flat false ts) ++ [someT (unionT (flat false ts))], okT x ∧ dt x ≤ d ∧ pa x ≤ p ∧ vt x ≤ v := fun x m => by
      rcases List.mem_append.mp m with m | m
      · exact o1 x m
      · rw [List.mem_singleton.mp m]
        exact ⟨sb.ok, Nat.le_trans sb.d hd, Nat.le_trans sb.p (by omega), Nat.le_trans sb.v hv⟩
    have key := filter_oth (u := .nothing) (oth (flat false ts)) (unionT (flat false ts)) false
    simp only [Bool.false_eq_true, if_false] at key
    have key2 : wts ((oth (flat false ts) ++ [someT (unionT (flat false ts))]).filter fun t => !PyData.eqv (td t) (td .nothing)) ≤ w ∧ ((oth (flat false ts) ++ [someT (unionT (flat false ts))]).filter fun t => !PyData.eqv (td t) (td .nothing)).length ≤ p := by
      by_cases z : (sts (flat false ts)).length = 0
      · have e : sts (flat false ts) = [] := List.eq_nil_of_length_eq_zero z
        have e2 : someT (unionT (flat false ts)) = .nothing := by
          unfold unionT
          rw [e]
          rfl
        rw [e2, filter_no]
        have h1 := wts_filter (fun t => !PyData.eqv (td t) (td .nothing)) (oth (flat false ts))
        have h2 := List.length_filter_le (fun t => !PyData.eqv (td t) (td .nothing)) (oth (flat false ts))
        omega
      · omega
    exact hk.bd (bd_nothing.mono hw1 hd hp1 hv) hin key2.1 key2.2
theorem AllOf.bd {ts : List T} {t : T} {w d p v : Nat} (h : AllOf ts t) (ht : ∀ t ∈ ts, okT t ∧ dt t ≤ d ∧ pa t ≤ p ∧ vt t ≤ v) (hw : wts ts ≤ w) (hp : psum ts ≤ p) (hd : 2 ≤ d) (hv : 2 ≤ v) (hw1 : 1 ≤ w) (hp1 : 1 ≤ p) : Bd w (d + 2) p (v + 2) t := by
  obtain ⟨f1, f2, f3⟩ := flat_bd (q := true) ht
  obtain ⟨o1, o2, o3⟩ := oth_bd f1
  rcases h.is with ⟨_, rfl⟩ | ⟨_, ks, hk, rfl⟩
  · exact bd_nothing.mono (by omega) (by omega) (by omega) (by omega)
  · have sb := someT_bd (meet_lt (flat true ts))
    have hin : ∀ x ∈ allP ts, okT x ∧ dt x ≤ d ∧ pa x ≤ p ∧ vt x ≤ v := fun x m => by
      rcases List.mem_append.mp m with m | m
      · exact o1 x m
      · split at m
        · cases m
        · rw [List.mem_singleton.mp m]
          exact ⟨sb.ok, Nat.le_trans sb.d (by omega), Nat.le_trans sb.p (by omega), Nat.le_trans sb.v (by omega)⟩
    have e0 : wts [] = 0 := by rw [wts_sum]; rfl
    have h1 := wts_filter (fun t => !PyData.eqv (td t) (td every)) (allP ts)
    have h2 := List.length_filter_le (fun t => !PyData.eqv (td t) (td every)) (allP ts)
    have key : wts (allP ts) ≤ w ∧ (allP ts).length ≤ p := by
      unfold allP
      rw [wts_app, List.length_append]
      split
      · rw [e0, List.length_nil]; omega
      · rename_i z
        have : (sts (flat true ts)).length ≠ 0 := fun e => z (by rw [List.eq_nil_of_length_eq_zero e]; rfl)
        have := sb.w
        rw [wts_cons, e0, List.length_singleton]
        omega
    exact hk.bd (every_bd.mono hw1 hd hp1 hv) hin (by omega) (by omega)
end By
namespace By
open PySem PySem.Spec PyProof.Rows L2
def splits (f g : List Nat → Bool) (p : List Nat) : Bool := (List.range (p.length + 1)).any fun at' => f (p.take at') && g (p.drop at')
def starB (f : List Nat → Bool) : Nat → List Nat → Bool
  | 0, p => p.isEmpty
  | n + 1, p => p.isEmpty || (List.range p.length).any fun j => f (p.take (j + 1)) && starB f n (p.drop (j + 1))
def one (n : Nat) : List Nat → Bool
  | [b] => n.testBit b
  | _ => false
mutual
def inn : T → List Nat → Bool
  | .nothing => fun _ => false
  | .empty => fun p => p.isEmpty
  | .some n => one n
  | .row a b => splits (inn a) (inn b)
  | .many q ts => if q then inAll ts else inAny ts
  | .not a => fun p => !inn a p
  | .again a => fun p => starB (inn a) p.length p
def inAll : List T → List Nat → Bool
  | [], _ => true
  | t :: ts, p => inn t p && inAll ts p
def inAny : List T → List Nat → Bool
  | [], _ => false
  | t :: ts, p => inn t p || inAny ts p
end
theorem inAll_eq (ts : List T) (p : List Nat) : inAll ts p = ts.all fun t => inn t p := by
  induction ts with
  | nil => unfold inAll; rfl
  | cons t ts ih => unfold inAll; rw [ih]; rfl
theorem inAny_eq (ts : List T) (p : List Nat) : inAny ts p = ts.any fun t => inn t p := by
  induction ts with
  | nil => unfold inAny; rfl
  | cons t ts ih => unfold inAny; rw [ih]; rfl
theorem inn_not (a : T) (p : List Nat) : inn (.not a) p = !inn a p := by conv => lhs; unfold inn
theorem inn_any (ts : List T) (p : List Nat) : inn (.many false ts) p = ts.any fun t => inn t p := by
  rw [← inAny_eq]; conv => lhs; unfold inn
  rfl
theorem inn_all (ts : List T) (p : List Nat) : inn (.many true ts) p = ts.all fun t => inn t p := by
  rw [← inAll_eq]; conv => lhs; unfold inn
  rfl
theorem inn_some (n : Nat) (p : List Nat) : inn (.some n) p = one n p := by conv => lhs; unfold inn
theorem inn_nothing (p : List Nat) : inn .nothing p = false := by conv => lhs; unfold inn
theorem cut_take {α : Type} (ds : List α) (j : Nat) (h : j ≤ ds.length) : cut ds none (some (j : Int)) = ds.take j := by
  unfold cut
  rw [HT.sIx_none, HT.sIx_nat, Nat.min_eq_left h]
  rfl
theorem cut_drop {α : Type} (ds : List α) (j : Nat) (h : j ≤ ds.length) : cut ds (some (j : Int)) none = ds.drop j := by
  unfold cut
  rw [HT.sIx_none, HT.sIx_nat, Nat.min_eq_left h]
  exact List.take_of_length_le (by rw [List.length_drop]; omega)
abbrev pd (p : List Nat) : PyData := .tuple (p.map ni)
section
variable {M : Mem}
end
def row0 (f : T → Bool) : T → Bool
  | .row x y => f x && row0 f y
  | _ => true
end By
namespace By
open PySem PySem.Spec PyProof.Rows L2
/-- what stands at s -/
abbrev gt (ns : List Nat) (s : Nat) : Nat := (ns[s]?).getD 0
structure Ends (f : List Nat → Bool) (p ns : List Nat) : Prop where
  len : ns.length = p.length + 1
  bit : ∀ s, s ≤ p.length → ∀ e, (gt ns s).testBit e = (decide (s ≤ e ∧ e ≤ p.length) && f ((p.take e).drop s))
theorem Ends.congr {f g : List Nat → Bool} {p ns : List Nat} (h : Ends f p ns) (e : ∀ q, f q = g q) : Ends g p ns := ⟨h.len, fun s hs i => by rw [h.bit s hs i, e]⟩
/-- the pairs of enumerate -/
def prs (ns : List Nat) : List (Nat × Nat) := (List.range ns.length).map fun i => (i, gt ns i)
def behind (m : Nat) (ns : List Nat) : Nat := (prs ns).foldl (fun a x => if m.testBit x.1 = true then a ||| x.2 else a) 0
def everyE (n : Nat) : List Nat := (List.range (n + 1)).map fun s => (2 ^ (n + 1) - 1) / 2 ^ s * 2 ^ s
def agStep (once : List Nat) (found : List Nat) (s : Nat) : List Nat := found.set s (2 ^ s ||| behind (gt once s) found)
structure Good (a : T) (p : List Nat) (j : Nat) (found : List Nat) : Prop where
  len : found.length = p.length + 1
  bit : ∀ s, s ≤ p.length → ∀ e, (gt found s).testBit e = if j ≤ s then (decide (s ≤ e ∧ e ≤ p.length) && inn (.again a) ((p.take e).drop s)) else false
abbrev wl (ns : List Nat) : List W := ns.map fun n => W.d (ni n)
theorem wl_eq (ns : List Nat) : (ns.map ni).map W.d = wl ns := by rw [List.map_map]; rfl
end By
namespace By
open PySem PySem.Spec PyProof.Rows L2
def preB {γ : Type} (f : γ → Bool) : List γ → List Bool
  | [] => []
  | x :: xs => if f x = true then [true] else false :: preB f xs
theorem allBw_map (bs : List Bool) : allBw (bs.map fun b => W.d (.bool b)) = some bs := by
  induction bs with
  | nil => rfl
  | cons b bs ih =>
    rw [List.map_cons]
    unfold allBw
    rw [ih]
    rfl
structure Rl where
  nm : Str
  f : Bool
  l : Bool
  t : T
def rdat (r : Rl) : PyData := .tuple [.str r.nm, .bool r.f, .bool r.l, td r.t]
def starts (f : Bool) (e : Nat) : List Nat := if f then [0] else List.range e
def hits (r : Rl) (p : List Nat) (e : Nat) : Bool := decide (0 < e) && (starts r.f e).any fun s => inn r.t ((p.take e).drop s)
abbrev r0 : Rl := ⟨"", false, false, .nothing⟩
abbrev bk (b : List Rl) (i : Nat) : Rl := (b[i]?).getD r0
def bprs (b : List Rl) : List (Nat × Rl) := (List.range b.length).map fun i => (i, bk b i)
/-- whether a rule is told behind j + 1 bytes (j < n), at the end (j = n) -/
def hit (p : List Nat) (r : Rl) (j : Nat) : Bool := if j < p.length then (!r.l && hits r p (j + 1)) else (r.l && hits r p p.length)
def idx (b : List Rl) (p : List Nat) (m j : Nat) : List Nat := (List.range m).filter fun i => hit p (bk b i) j
def toldD (b : List Rl) (p : List Nat) : PyData := .tuple ((List.range (p.length + 1)).map fun j => .tuple ((idx b p b.length j).map ni))
theorem x_tuD {k : Nat} {ds : List PyData} {M : Mem} (h : M[k]? = some (.lst (ds.map .d))) : fTuple [.r k] M = .ok (.d (.tuple ds)) M := by
  unfold fTuple rd
  simp only [h, allD_map]
  rfl
def cells (base : Nat) (n : Nat) : List W := (List.range n).map fun j => .r (base + j)
def rows (tl : List (List Nat)) : Mem := tl.map fun l => .lst (wl l)
abbrev gl (tl : List (List Nat)) (j : Nat) : List Nat := (tl[j]?).getD []
/-- the store: lists, and a list of them -/
def shelf (M : Mem) (tl : List (List Nat)) : Mem := M ++ rows tl ++ [.lst (cells M.length tl.length)]
/-- one rule's places written down -/
def putR (r : Rl) (i n : Nat) (tl : List (List Nat)) (e : Nat) : List (List Nat) := if r.l = false then tl.set (e - 1) (gl tl (e - 1) ++ [i]) else if e = n then tl.set n (gl tl n ++ [i]) else tl
/-- where a rule matches -/
def places (r : Rl) (p : List Nat) : List Nat := ((List.range p.length).map (· + 1)).filter fun e => hits r p e
theorem floop_foldN {σ γ : Type} {tg : Tg} {body : DS} {all : List W} {g : Gd} (st : σ → Rho) (mm : σ → Mem) (inj : γ → W) (f : σ → γ → σ) (I : Nat → σ → Prop) (P : γ → Prop)
    (hg : ∀ n s, I n s → gOk g all (mm s)) (hs : ∀ n s x, I (n + 1) s → P x → I n (f s x) ∧ ∃ ρ1, tg.den (inj x) (st s) = some ρ1 ∧ body ρ1 (mm s) = .ok (.nx (st (f s x))) (mm (f s x))) :
    ∀ (xs : List γ) (s : σ), I xs.length s → (∀ x ∈ xs, P x) → floop all g tg body (xs.map inj) (st s) (mm s) = .ok (.nx (st (xs.foldl f s))) (mm (xs.foldl f s)) ∧ I 0 (xs.foldl f s)
  | [], s, h, _ => ⟨floop_end (hg _ s h), h⟩
  | x :: xs, s, h, hp => by
    obtain ⟨h1, ρ1, h2, h3⟩ := hs xs.length s x h (hp x List.mem_cons_self)
    rw [List.map_cons, floop_step (hg _ s h) h2 h3]
    exact floop_foldN st mm inj f I P hg hs xs (f s x) h1 fun y hy => hp y (List.mem_cons_of_mem _ hy)
end By
namespace By
open PySem PySem.Spec PyProof.Rows L2
def cpl (x : Str) : List Nat := x.cps.toList
theorem cp_app (x y : Str) : cpl (x ++ y) = cpl x ++ cpl y := by
  show (x.cps ++ y.cps).toList = _
  rw [Array.toList_append]
  rfl
theorem cut_at {c : Nat} : ∀ {w w' r r' : List Nat}, c ∉ w → c ∉ w' → w ++ c :: r = w' ++ c :: r' → w = w' ∧ r = r'
  | [], [], r, r', _, _, h => ⟨rfl, (List.cons.inj h).2⟩
  | [], x :: w', r, r', _, h2, h => absurd (List.cons.inj h).1 fun e => h2 (e ▸ List.mem_cons_self)
  | x :: w, [], r, r', h1, _, h => absurd (List.cons.inj h).1 fun e => h1 (e ▸ List.mem_cons_self)
  | x :: w, y :: w', r, r', h1, h2, h => by
    obtain ⟨e1, e2⟩ := List.cons.inj h
    obtain ⟨e3, e4⟩ := cut_at (fun m => h1 (List.mem_cons_of_mem _ m)) (fun m => h2 (List.mem_cons_of_mem _ m)) e2
    exact ⟨by rw [e1, e3], e4⟩
/-- a word's signs -/
def wc : T → List Nat
  | .nothing => [110, 111, 116, 104, 105, 110, 103]
  | .empty => [101, 109, 112, 116, 121]
  | .some _ => [115, 111, 109, 101]
  | .row _ _ => [114, 111, 119]
  | .many false _ => [97, 110, 121, 32, 111, 102]
  | .many true _ => [97, 108, 108, 32, 111, 102]
  | .not _ => [110, 111, 116]
  | .again _ => [97, 103, 97, 105, 110]
theorem word_cp (t : T) : cpl (PyData.shown (.str (wd t))) = 39 :: (wc t ++ [39]) := by
  unfold PyData.shown
  cases t with
  | many q ts => cases q with
    | true => exact (show cpl (reprText "all of") = [39, 97, 108, 108, 32, 111, 102, 39] by decide +kernel)
    | false => exact (show cpl (reprText "any of") = [39, 97, 110, 121, 32, 111, 102, 39] by decide +kernel)
  | nothing => exact (show cpl (reprText "nothing") = [39, 110, 111, 116, 104, 105, 110, 103, 39] by decide +kernel)
  | empty => exact (show cpl (reprText "empty") = [39, 101, 109, 112, 116, 121, 39] by decide +kernel)
  | some n => exact (show cpl (reprText "some") = [39, 115, 111, 109, 101, 39] by decide +kernel)
  | row a b => exact (show cpl (reprText "row") = [39, 114, 111, 119, 39] by decide +kernel)
  | not a => exact (show cpl (reprText "not") = [39, 110, 111, 116, 39] by decide +kernel)
  | again a => exact (show cpl (reprText "again") = [39, 97, 103, 97, 105, 110, 39] by decide +kernel)
theorem wc_39 (t : T) : 39 ∉ wc t := by
  cases t with
  | many q ts => cases q with
    | true => exact (show 39 ∉ [97, 108, 108, 32, 111, 102] by decide)
    | false => exact (show 39 ∉ [97, 110, 121, 32, 111, 102] by decide)
  | nothing => exact (show 39 ∉ [110, 111, 116, 104, 105, 110, 103] by decide)
  | empty => exact (show 39 ∉ [101, 109, 112, 116, 121] by decide)
  | some n => exact (show 39 ∉ [115, 111, 109, 101] by decide)
  | row a b => exact (show 39 ∉ [114, 111, 119] by decide)
  | not a => exact (show 39 ∉ [110, 111, 116] by decide)
  | again a => exact (show 39 ∉ [97, 103, 97, 105, 110] by decide)
/-- signs behind the first of several -/
def tailC : List (List Nat) → List Nat
  | [] => [41]
  | y :: r => 44 :: 32 :: (y ++ tailC r)
def tupC : List (List Nat) → List Nat
  | [] => [40, 41]
  | [x] => 40 :: (x ++ [44, 41])
  | x :: y :: r => 40 :: (x ++ tailC (y :: r))
theorem join_cp : ∀ (x : Str) (ts : List Str), cpl (Str.join ", " (x :: ts)) ++ [41] = cpl x ++ tailC (ts.map cpl)
  | x, [] => rfl
  | x, y :: r => by
    have e : Str.join ", " (x :: y :: r) = x ++ ", " ++ Str.join ", " (y :: r) := rfl
    rw [e, cp_app, cp_app, List.append_assoc, join_cp y r, List.append_assoc]
    rfl
theorem tup_cp (ts : List Str) : cpl (tupleText ts) = tupC (ts.map cpl) := by
  unfold tupleText
  rw [cp_app, cp_app]
  match ts with
  | [] => rfl
  | [x] => exact (show [40] ++ cpl x ++ [44, 41] = _ by simp [tupC])
  | x :: y :: r =>
    have e : ((x :: y :: r).length == 1) = false := by simp
    rw [if_neg (by rw [e]; decide)]
    show [40] ++ cpl (Str.join ", " (x :: y :: r)) ++ [41] = _
    rw [List.append_assoc, join_cp]
    rfl
def tx (t : T) : List Nat := cpl (td t).shown
theorem shown_tup (ds : List PyData) : cpl (PyData.shown (.tuple ds)) = tupC (ds.map fun d => cpl d.shown) := by
  have e : PyData.shown (.tuple ds) = tupleText (PyData.shownAll ds) := by conv => lhs; unfold PyData.shown
  rw [e, shownAll_map, tup_cp, List.map_map]
  rfl
def dg (n : Nat) : List Nat := cpl (PyData.shown (ni n))
theorem dg_no (n : Nat) (k : Nat) (hk : k ≠ 45 ∧ (k < 48 ∨ 57 < k)) : k ∉ dg n := by
  unfold dg PyData.shown
  exact PyProof.Rows.int_text_free' k hk _
theorem tx_nothing : tx .nothing = 40 :: 39 :: (wc .nothing ++ 39 :: [44, 41]) := by
  unfold tx
  rw [td_nothing, shown_tup]
  show tupC [cpl (PyData.shown (.str (wd .nothing)))] = _
  rw [word_cp]
  simp [tupC]
theorem tx_empty : tx .empty = 40 :: 39 :: (wc .empty ++ 39 :: [44, 41]) := by
  unfold tx
  rw [td_empty, shown_tup]
  show tupC [cpl (PyData.shown (.str (wd .empty)))] = _
  rw [word_cp]
  simp [tupC]
theorem tx_some (n : Nat) : tx (.some n) = 40 :: 39 :: (wc (.some n) ++ 39 :: 44 :: 32 :: (dg n ++ [41])) := by
  unfold tx
  rw [td_some, shown_tup]
  show tupC [cpl (PyData.shown (.str (wd (.some n)))), dg n] = _
  rw [word_cp]
  simp [tupC, tailC]
theorem tx_row (a b : T) : tx (.row a b) = 40 :: 39 :: (wc (.row a b) ++ 39 :: 44 :: 32 :: (tx a ++ 44 :: 32 :: (tx b ++ [41]))) := by
  show cpl (td (.row a b)).shown = _
  rw [td_row, shown_tup]
  show tupC [cpl (PyData.shown (.str (wd (.row a b)))), tx a, tx b] = _
  rw [word_cp]
  simp [tupC, tailC]
theorem tx_not (a : T) : tx (.not a) = 40 :: 39 :: (wc (.not a) ++ 39 :: 44 :: 32 :: (tx a ++ [41])) := by
  show cpl (td (.not a)).shown = _
  rw [td_not, shown_tup]
  show tupC [cpl (PyData.shown (.str (wd (.not a)))), tx a] = _
  rw [word_cp]
  simp [tupC, tailC]
theorem tx_again (a : T) : tx (.again a) = 40 :: 39 :: (wc (.again a) ++ 39 :: 44 :: 32 :: (tx a ++ [41])) := by
  show cpl (td (.again a)).shown = _
  rw [td_again, shown_tup]
  show tupC [cpl (PyData.shown (.str (wd (.again a)))), tx a] = _
  rw [word_cp]
  simp [tupC, tailC]
theorem tx_many (q : Bool) (ts : List T) : tx (.many q ts) = 40 :: 39 :: (wc (.many q ts) ++ 39 :: 44 :: 32 :: (tupC (ts.map tx) ++ [41])) := by
  show cpl (td (.many q ts)).shown = _
  rw [td_many, shown_tup]
  show tupC [cpl (PyData.shown (.str (wd (.many q ts)))), cpl (PyData.shown (.tuple (ts.map td)))] = _
  rw [word_cp, shown_tup, List.map_map]
  show tupC [_, tupC (ts.map tx)] = _
  simp [tupC, tailC]
theorem tx_form (t : T) : ∃ r, tx t = 40 :: 39 :: (wc t ++ 39 :: r) := by
  cases t with
  | nothing => exact ⟨_, tx_nothing⟩
  | empty => exact ⟨_, tx_empty⟩
  | some n => exact ⟨_, tx_some n⟩
  | row a b => exact ⟨_, tx_row a b⟩
  | many q ts => exact ⟨_, tx_many q ts⟩
  | not a => exact ⟨_, tx_not a⟩
  | again a => exact ⟨_, tx_again a⟩
theorem dg_inj {m n : Nat} (h : dg m = dg n) : m = n := by
  have e : ∀ k : Nat, dg k = (Nat.toDigits 10 k).map Char.toNat := fun k => by
    unfold dg PyData.shown cpl
    rw [PySem.Str.ofString_eq_toList]
    show ((toString (Int.ofNat k)).toList.map Char.toNat).toArray.toList = _
    rw [show toString (Int.ofNat k) = Nat.repr k from rfl, Nat.toList_repr]
  rw [e, e] at h
  have h2 : Nat.toDigits 10 m = Nat.toDigits 10 n := List.map_inj_right (fun a b q => Char.toNat_inj.mp q) |>.mp h
  have h3 := congrArg (fun cs => Nat.ofDigitChars 10 cs 0) h2
  simp only [Nat.ofDigitChars_toDigits (by decide : 1 < 10) (by decide : 10 ≤ 10)] at h3
  exact h3
abbrev Uni (t : T) : Prop := ∀ u r s, tx t ++ r = tx u ++ s → t = u ∧ r = s
theorem tail_uni : ∀ {ts us : List T} {r s : List Nat}, (∀ t ∈ ts, Uni t) → tailC (ts.map tx) ++ r = tailC (us.map tx) ++ s → ts = us ∧ r = s
  | [], [], r, s, _, h => ⟨rfl, by simpa [tailC] using h⟩
  | [], u :: us, r, s, _, h => by simp [tailC] at h
  | t :: ts, [], r, s, _, h => by simp [tailC] at h
  | t :: ts, u :: us, r, s, H, h => by
    simp only [List.map_cons, tailC, List.cons_append, List.append_assoc, List.cons.injEq, true_and] at h
    obtain ⟨e1, e2⟩ := H t List.mem_cons_self u _ _ h
    obtain ⟨e3, e4⟩ := tail_uni (fun x m => H x (List.mem_cons_of_mem _ m)) e2
    exact ⟨by rw [e1, e3], e4⟩
theorem tup_uni {ts us : List T} {r s : List Nat} (H : ∀ t ∈ ts, Uni t) (h : tupC (ts.map tx) ++ r = tupC (us.map tx) ++ s) : ts = us ∧ r = s := by
  have st : ∀ (t : T) (r s : List Nat), tx t ++ r ≠ 41 :: s := fun t r s e => by
    obtain ⟨q, hq⟩ := tx_form t
    rw [hq] at e
    cases (List.cons.inj e).1
  match ts, us, H, h with
  | [], [], _, h => exact ⟨rfl, by simpa [tupC] using h⟩
  | [], [u], _, h =>
    simp only [List.map_cons, List.map_nil, tupC, List.cons_append, List.nil_append, List.cons.injEq, true_and, List.append_assoc] at h
    exact absurd h.symm (st _ _ _)
  | [], u :: v :: us, _, h =>
    simp only [List.map_cons, List.map_nil, tupC, List.cons_append, List.nil_append, List.cons.injEq, true_and, List.append_assoc] at h
    exact absurd h.symm (st _ _ _)
  | [t], [], _, h =>
    simp only [List.map_cons, List.map_nil, tupC, List.cons_append, List.nil_append, List.cons.injEq, true_and, List.append_assoc] at h
    exact absurd h (st _ _ _)
  | t :: t2 :: ts, [], _, h =>
    simp only [List.map_cons, List.map_nil, tupC, List.cons_append, List.nil_append, List.cons.injEq, true_and, List.append_assoc] at h
    exact absurd h (st _ _ _)
  | [t], [u], H, h =>
    simp only [List.map_cons, List.map_nil, tupC, List.cons_append, List.nil_append, List.cons.injEq, true_and, List.append_assoc] at h
    obtain ⟨e1, e2⟩ := H t List.mem_cons_self u _ _ h
    simp only [List.cons.injEq, true_and] at e2
    exact ⟨by rw [e1], e2⟩
  | [t], u :: v :: us, H, h =>
    simp only [List.map_cons, List.map_nil, tupC, tailC, List.cons_append, List.nil_append, List.cons.injEq, true_and, List.append_assoc] at h
    obtain ⟨e1, e2⟩ := H t List.mem_cons_self u _ _ h
    simp at e2
  | t :: t2 :: ts, [u], H, h =>
    simp only [List.map_cons, List.map_nil, tupC, tailC, List.cons_append, List.nil_append, List.cons.injEq, true_and, List.append_assoc] at h
    obtain ⟨e1, e2⟩ := H t List.mem_cons_self u _ _ h
    simp at e2
  | t :: t2 :: ts, u :: v :: us, H, h =>
    simp only [List.map_cons, tupC, List.cons_append, List.cons.injEq, true_and, List.append_assoc] at h
    obtain ⟨e1, e2⟩ := H t List.mem_cons_self u _ _ h
    have e3 : tailC ((t2 :: ts).map tx) ++ r = tailC ((v :: us).map tx) ++ s := e2
    obtain ⟨e4, e5⟩ := tail_uni (fun x m => H x (List.mem_cons_of_mem _ m)) e3
    exact ⟨by rw [e1, e4], e5⟩
theorem uni_head {t u : T} {r s R S : List Nat} (et : tx t = 40 :: 39 :: (wc t ++ 39 :: R)) (eu : tx u = 40 :: 39 :: (wc u ++ 39 :: S)) (h : tx t ++ r = tx u ++ s) : wc t = wc u ∧ R ++ r = S ++ s := by
  rw [et, eu] at h
  simp only [List.cons_append, List.append_assoc, List.cons.injEq, true_and] at h
  exact cut_at (wc_39 t) (wc_39 u) h
theorem uni (t : T) : Uni t := by
  induction t using T.ind with
  | h1 =>
    intro u r s h
    cases u with
    | nothing =>
      obtain ⟨w, g⟩ := uni_head tx_nothing tx_nothing h
      simp only [List.cons_append, List.nil_append, List.cons.injEq, true_and] at g
      exact ⟨rfl, g⟩
    | empty =>
      obtain ⟨w, g⟩ := uni_head tx_nothing tx_empty h
      exact absurd w (by simp [wc])
    | some n' =>
      obtain ⟨w, g⟩ := uni_head tx_nothing (tx_some n') h
      exact absurd w (by simp [wc])
    | row a' b' =>
      obtain ⟨w, g⟩ := uni_head tx_nothing (tx_row a' b') h
      exact absurd w (by simp [wc])
    | not a' =>
      obtain ⟨w, g⟩ := uni_head tx_nothing (tx_not a') h
      exact absurd w (by simp [wc])
    | again a' =>
      obtain ⟨w, g⟩ := uni_head tx_nothing (tx_again a') h
      exact absurd w (by simp [wc])
    | many q' ts' =>
      obtain ⟨w, g⟩ := uni_head tx_nothing (tx_many q' ts') h
      exact absurd w (by cases q' <;> simp [wc])
  | h2 =>
    intro u r s h
    cases u with
    | nothing =>
      obtain ⟨w, g⟩ := uni_head tx_empty tx_nothing h
      exact absurd w (by simp [wc])
    | empty =>
      obtain ⟨w, g⟩ := uni_head tx_empty tx_empty h
      simp only [List.cons_append, List.nil_append, List.cons.injEq, true_and] at g
      exact ⟨rfl, g⟩
    | some n' =>
      obtain ⟨w, g⟩ := uni_head tx_empty (tx_some n') h
      exact absurd w (by simp [wc])
    | row a' b' =>
      obtain ⟨w, g⟩ := uni_head tx_empty (tx_row a' b') h
      exact absurd w (by simp [wc])
    | not a' =>
      obtain ⟨w, g⟩ := uni_head tx_empty (tx_not a') h
      exact absurd w (by simp [wc])
    | again a' =>
      obtain ⟨w, g⟩ := uni_head tx_empty (tx_again a') h
      exact absurd w (by simp [wc])
    | many q' ts' =>
      obtain ⟨w, g⟩ := uni_head tx_empty (tx_many q' ts') h
      exact absurd w (by cases q' <;> simp [wc])
  | h3 n =>
    intro u r s h
    cases u with
    | nothing =>
      obtain ⟨w, g⟩ := uni_head (tx_some n) tx_nothing h
      exact absurd w (by simp [wc])
    | empty =>
      obtain ⟨w, g⟩ := uni_head (tx_some n) tx_empty h
      exact absurd w (by simp [wc])
    | some n' =>
      obtain ⟨w, g⟩ := uni_head (tx_some n) (tx_some n') h
      simp only [List.cons_append, List.append_assoc, List.nil_append, List.cons.injEq, true_and] at g
      obtain ⟨e1, e2⟩ := cut_at (dg_no n 41 (by omega)) (dg_no n' 41 (by omega)) g
      exact ⟨by rw [dg_inj e1], e2⟩
    | row a' b' =>
      obtain ⟨w, g⟩ := uni_head (tx_some n) (tx_row a' b') h
      exact absurd w (by simp [wc])
    | not a' =>
      obtain ⟨w, g⟩ := uni_head (tx_some n) (tx_not a') h
      exact absurd w (by simp [wc])
    | again a' =>
      obtain ⟨w, g⟩ := uni_head (tx_some n) (tx_again a') h
      exact absurd w (by simp [wc])
    | many q' ts' =>
      obtain ⟨w, g⟩ := uni_head (tx_some n) (tx_many q' ts') h
      exact absurd w (by cases q' <;> simp [wc])
  | h4 a b ha hb =>
    intro u r s h
    cases u with
    | nothing =>
      obtain ⟨w, g⟩ := uni_head (tx_row a b) tx_nothing h
      exact absurd w (by simp [wc])
    | empty =>
      obtain ⟨w, g⟩ := uni_head (tx_row a b) tx_empty h
      exact absurd w (by simp [wc])
    | some n' =>
      obtain ⟨w, g⟩ := uni_head (tx_row a b) (tx_some n') h
      exact absurd w (by simp [wc])
    | row a' b' =>
      obtain ⟨w, g⟩ := uni_head (tx_row a b) (tx_row a' b') h
      simp only [List.cons_append, List.append_assoc, List.nil_append, List.cons.injEq, true_and] at g
      obtain ⟨e1, e2⟩ := ha a' _ _ g
      simp only [List.cons.injEq, true_and] at e2
      obtain ⟨e3, e4⟩ := hb b' _ _ e2
      simp only [List.cons.injEq, true_and] at e4
      exact ⟨by rw [e1, e3], e4⟩
    | not a' =>
      obtain ⟨w, g⟩ := uni_head (tx_row a b) (tx_not a') h
      exact absurd w (by simp [wc])
    | again a' =>
      obtain ⟨w, g⟩ := uni_head (tx_row a b) (tx_again a') h
      exact absurd w (by simp [wc])
    | many q' ts' =>
      obtain ⟨w, g⟩ := uni_head (tx_row a b) (tx_many q' ts') h
      exact absurd w (by cases q' <;> simp [wc])
  | h6 a ha =>
    intro u r s h
    cases u with
    | nothing =>
      obtain ⟨w, g⟩ := uni_head (tx_not a) tx_nothing h
      exact absurd w (by simp [wc])
    | empty =>
      obtain ⟨w, g⟩ := uni_head (tx_not a) tx_empty h
      exact absurd w (by simp [wc])
    | some n' =>
      obtain ⟨w, g⟩ := uni_head (tx_not a) (tx_some n') h
      exact absurd w (by simp [wc])
    | row a' b' =>
      obtain ⟨w, g⟩ := uni_head (tx_not a) (tx_row a' b') h
      exact absurd w (by simp [wc])
    | not a' =>
      obtain ⟨w, g⟩ := uni_head (tx_not a) (tx_not a') h
      simp only [List.cons_append, List.append_assoc, List.nil_append, List.cons.injEq, true_and] at g
      obtain ⟨e1, e2⟩ := ha a' _ _ g
      simp only [List.cons.injEq, true_and] at e2
      exact ⟨by rw [e1], e2⟩
    | again a' =>
      obtain ⟨w, g⟩ := uni_head (tx_not a) (tx_again a') h
      exact absurd w (by simp [wc])
    | many q' ts' =>
      obtain ⟨w, g⟩ := uni_head (tx_not a) (tx_many q' ts') h
      exact absurd w (by cases q' <;> simp [wc])
  | h7 a ha =>
    intro u r s h
    cases u with
    | nothing =>
      obtain ⟨w, g⟩ := uni_head (tx_again a) tx_nothing h
      exact absurd w (by simp [wc])
    | empty =>
      obtain ⟨w, g⟩ := uni_head (tx_again a) tx_empty h
      exact absurd w (by simp [wc])
    | some n' =>
      obtain ⟨w, g⟩ := uni_head (tx_again a) (tx_some n') h
      exact absurd w (by simp [wc])
    | row a' b' =>
      obtain ⟨w, g⟩ := uni_head (tx_again a) (tx_row a' b') h
      exact absurd w (by simp [wc])
    | not a' =>
      obtain ⟨w, g⟩ := uni_head (tx_again a) (tx_not a') h
      exact absurd w (by simp [wc])
    | again a' =>
      obtain ⟨w, g⟩ := uni_head (tx_again a) (tx_again a') h
      simp only [List.cons_append, List.append_assoc, List.nil_append, List.cons.injEq, true_and] at g
      obtain ⟨e1, e2⟩ := ha a' _ _ g
      simp only [List.cons.injEq, true_and] at e2
      exact ⟨by rw [e1], e2⟩
    | many q' ts' =>
      obtain ⟨w, g⟩ := uni_head (tx_again a) (tx_many q' ts') h
      exact absurd w (by cases q' <;> simp [wc])
  | h5 q ts H =>
    intro u r s h
    cases u with
    | nothing =>
      obtain ⟨w, g⟩ := uni_head (tx_many q ts) tx_nothing h
      exact absurd w (by cases q <;> simp [wc])
    | empty =>
      obtain ⟨w, g⟩ := uni_head (tx_many q ts) tx_empty h
      exact absurd w (by cases q <;> simp [wc])
    | some n' =>
      obtain ⟨w, g⟩ := uni_head (tx_many q ts) (tx_some n') h
      exact absurd w (by cases q <;> simp [wc])
    | row a' b' =>
      obtain ⟨w, g⟩ := uni_head (tx_many q ts) (tx_row a' b') h
      exact absurd w (by cases q <;> simp [wc])
    | not a' =>
      obtain ⟨w, g⟩ := uni_head (tx_many q ts) (tx_not a') h
      exact absurd w (by cases q <;> simp [wc])
    | again a' =>
      obtain ⟨w, g⟩ := uni_head (tx_many q ts) (tx_again a') h
      exact absurd w (by cases q <;> simp [wc])
    | many q' ts' =>
      obtain ⟨w, g⟩ := uni_head (tx_many q ts) (tx_many q' ts') h
      simp only [List.cons_append, List.append_assoc, List.nil_append, List.cons.injEq, true_and] at g
      obtain ⟨e1, e2⟩ := tup_uni H g
      simp only [List.cons.injEq, true_and] at e2
      have eq : q = q' := by
        cases q <;> cases q' <;> first | rfl | (simp [wc] at w)
      exact ⟨by rw [e1, eq], e2⟩
theorem shown_inj {t u : T} (h : (td t).shown = (td u).shown) : t = u := (uni t u [] [] (by unfold tx; rw [h])).1
end By
namespace By
open PySem PySem.Spec PyProof.Rows L2
theorem isNo_iff {t : T} : isNo t = true ↔ t = .nothing := by cases t <;> simp [isNo]
/-- so many rows one behind another -/
def reps (f : List Nat → Bool) : Nat → List Nat → Bool
  | 0 => fun p => p.isEmpty
  | n + 1 => splits f (reps f n)
theorem isEvery_iff {t : T} : isEvery t = true ↔ t = every := by
  have ek : ∀ u : T, td u = .tuple (.str (wd u) :: tl u) := td_eq
  constructor
  · intro h
    unfold isEvery at h
    cases t with
    | not a =>
      rw [td_not] at h
      simp only [PyData.eqv, PyData.eqvAll, Bool.and_true, Bool.and_eq_true] at h
      have h2 := h.2
      have e := eqv_no a
      rw [e] at h2
      rw [isNo_iff.mp h2]
    | nothing => rw [← td_nothing, ← td_not, eqv_word (t := .nothing) (u := .not .nothing) sw_nothing_not] at h; cases h
    | empty => rw [← td_nothing, ← td_not, eqv_word (t := .empty) (u := .not .nothing) sw_empty_not] at h; cases h
    | some n => rw [← td_nothing, ← td_not, eqv_word (t := .some n) (u := .not .nothing) sw_some_not] at h; cases h
    | row a b => rw [← td_nothing, ← td_not, eqv_word (t := .row a b) (u := .not .nothing) sw_row_not] at h; cases h
    | again a => rw [← td_nothing, ← td_not, eqv_word (t := .again a) (u := .not .nothing) sw_again_not] at h; cases h
    | many q ts =>
      cases q with
      | true => rw [← td_nothing, ← td_not, eqv_word (t := .many true ts) (u := .not .nothing) sw_allof_not] at h; cases h
      | false => rw [← td_nothing, ← td_not, eqv_word (t := .many false ts) (u := .not .nothing) sw_anyof_not] at h; cases h
  · rintro rfl
    unfold isEvery
    rw [← td_nothing, td_not]
    simp only [PyData.eqv, PyData.eqvAll, Bool.and_true]
    have : PyData.eqv (td .nothing) (td .nothing) = true := by
      conv => lhs; arg 2; rw [td_nothing]
      exact eqv_no .nothing
    rw [this]
    simp
theorem put_mem {u : T} {ts ks : List T} (h : Put u ts ks) (t : T) : t ∈ ks ↔ t ∈ ts ∧ PyData.eqv (td t) (td u) = false := by
  constructor
  · exact h.mem t
  · rintro ⟨h1, h2⟩
    obtain ⟨t', m, e⟩ := h.got t h1 h2
    rw [← shown_inj e]
    exact m
theorem inn_kp_any (ks : List T) (p : List Nat) : inn (kp false .nothing ks) p = ks.any fun t => inn t p := by
  match ks with
  | [] => exact inn_nothing p
  | [t] => show inn t p = _; simp
  | a :: b :: r => exact inn_any _ p
theorem inn_every (p : List Nat) : inn every p = true := by rw [inn_not, inn_nothing]; rfl
theorem inn_kp_all (ks : List T) (p : List Nat) : inn (kp true every ks) p = ks.all fun t => inn t p := by
  match ks with
  | [] => exact inn_every p
  | [t] => show inn t p = _; simp
  | a :: b :: r => exact inn_all _ p
theorem flat_any (ts : List T) (p : List Nat) : ((flat false ts).any fun t => inn t p) = ts.any fun t => inn t p := by
  unfold flat
  induction ts with
  | nil => rfl
  | cons t ts ih =>
    rw [List.flatMap_cons, List.any_append, List.any_cons, ih]
    congr 1
    cases t with
    | many r us =>
      by_cases e : r = false
      · subst e
        show (us.any fun t => inn t p) = _
        rw [inn_any]
      · rw [show apart false (.many r us) = [.many r us] from if_neg e]
        simp
    | _ => simp [apart]
theorem flat_all (ts : List T) (p : List Nat) : ((flat true ts).all fun t => inn t p) = ts.all fun t => inn t p := by
  unfold flat
  induction ts with
  | nil => rfl
  | cons t ts ih =>
    rw [List.flatMap_cons, List.all_append, List.all_cons, ih]
    congr 1
    cases t with
    | many r us =>
      by_cases e : r = true
      · subst e
        show (us.all fun t => inn t p) = _
        rw [inn_all]
      · rw [show apart true (.many r us) = [.many r us] from if_neg e]
        simp
    | _ => simp [apart]
theorem one_or (p : List Nat) : ∀ (ns : List Nat) (m : Nat), one (ns.foldl (fun m n => m ||| n) m) p = (one m p || ns.any fun n => one n p)
  | [], m => by simp
  | n :: ns, m => by
    rw [List.foldl_cons, one_or p ns, List.any_cons, ← Bool.or_assoc]
    congr 1
    match p with
    | [] => rfl
    | [b] => exact Nat.testBit_or m n b
    | _ :: _ :: _ => rfl
theorem one_and (p : List Nat) : ∀ (ns : List Nat) (m : Nat), one (ns.foldl (fun m n => m &&& n) m) p = (one m p && ns.all fun n => one n p)
  | [], m => by simp
  | n :: ns, m => by
    rw [List.foldl_cons, one_and p ns, List.all_cons, ← Bool.and_assoc]
    congr 1
    match p with
    | [] => rfl
    | [b] => exact Nat.testBit_and m n b
    | _ :: _ :: _ => rfl
theorem inn_someT (n : Nat) (p : List Nat) : inn (someT n) p = one n p := by
  unfold someT
  split
  · rename_i h
    subst h
    rw [inn_nothing]
    match p with
    | [] => rfl
    | [b] => exact (Nat.zero_testBit b).symm
    | _ :: _ :: _ => rfl
  · exact inn_some n p
theorem any_parts (P : List T) (p : List Nat) : (P.any fun t => inn t p) = ((oth P).any (fun t => inn t p) || (sts P).any fun n => one n p) := by
  unfold oth sts
  induction P with
  | nil => rfl
  | cons t P ih =>
    rw [List.any_cons, ih, List.filter_cons, List.filter_cons]
    cases t with
    | some n =>
      simp only [isSome, Bool.not_true, Bool.false_eq_true, if_false, if_true, List.map_cons, List.any_cons, setT, inn_some]
      cases one n p <;> simp
    | _ => simp [isSome, Bool.or_assoc]
theorem all_parts (P : List T) (p : List Nat) : (P.all fun t => inn t p) = ((oth P).all (fun t => inn t p) && (sts P).all fun n => one n p) := by
  unfold oth sts
  induction P with
  | nil => rfl
  | cons t P ih =>
    rw [List.all_cons, ih, List.filter_cons, List.filter_cons]
    cases t with
    | some n =>
      simp only [isSome, Bool.not_true, Bool.false_eq_true, if_false, if_true, List.map_cons, List.all_cons, setT, inn_some]
      cases one n p <;> simp
    | _ => simp [isSome, Bool.and_assoc]
theorem put_any {ts ks : List T} (h : Put .nothing ts ks) (p : List Nat) : (ks.any fun t => inn t p) = ts.any fun t => inn t p := by
  apply Bool.eq_iff_iff.mpr
  rw [List.any_eq_true, List.any_eq_true]
  constructor
  · rintro ⟨t, m, e⟩
    exact ⟨t, (h.mem t m).1, e⟩
  · rintro ⟨t, m, e⟩
    refine ⟨t, (put_mem h t).mpr ⟨m, ?_⟩, e⟩
    cases q : PyData.eqv (td t) (td .nothing) with
    | false => rfl
    | true =>
      rw [td_nothing, eqv_no] at q
      rw [isNo_iff.mp q, inn_nothing] at e
      cases e
theorem put_all {ts ks : List T} (h : Put every ts ks) (p : List Nat) : (ks.all fun t => inn t p) = ts.all fun t => inn t p := by
  apply Bool.eq_iff_iff.mpr
  rw [List.all_eq_true, List.all_eq_true]
  constructor
  · intro e t m
    cases q : PyData.eqv (td t) (td every) with
    | false => exact e t ((put_mem h t).mpr ⟨m, q⟩)
    | true =>
      have : isEvery t = true := by
        unfold isEvery
        rw [← td_nothing, ← td_not]
        exact q
      rw [isEvery_iff.mp this]
      exact inn_every p
  · intro e t m
    exact e t (h.mem t m).1
theorem AnyOf.inn {ts : List T} {t : T} (h : AnyOf ts t) (p : List Nat) : By.inn t p = ts.any fun t => By.inn t p := by
  rw [← flat_any]
  rcases h.is with ⟨he, rfl⟩ | ⟨_, ks, hk, rfl⟩
  · rw [inn_every]
    obtain ⟨x, m, e⟩ := List.any_eq_true.mp he
    symm
    rw [List.any_eq_true]
    exact ⟨x, m, by rw [isEvery_iff.mp e]; exact inn_every p⟩
  · rw [inn_kp_any, put_any hk, List.any_append, any_parts (flat false ts)]
    congr 1
    rw [List.any_cons, List.any_nil, Bool.or_false, inn_someT]
    unfold unionT
    rw [one_or]
    have : one 0 p = false := by
      match p with
      | [] => rfl
      | [b] => exact Nat.zero_testBit b
      | _ :: _ :: _ => rfl
    rw [this, Bool.false_or]
theorem AllOf.inn {ts : List T} {t : T} (ok : ∀ t ∈ ts, okT t) (h : AllOf ts t) (p : List Nat) : By.inn t p = ts.all fun t => By.inn t p := by
  have okf : ∀ t ∈ flat true ts, okT t := fun t m => ((flat_bd (q := true) (ts := ts) (d := dts ts) (p := pas ts) (v := vts ts) fun t m => ⟨ok t m, dts_le.mp (Nat.le_refl _) t m, pas_le.mp (Nat.le_refl _) t m, vts_le.mp (Nat.le_refl _) t m⟩).1 t m).1
  have eP : ((allP ts).all fun t => By.inn t p) = ts.all fun t => By.inn t p := by
    rw [← flat_all ts p, all_parts (flat true ts)]
    unfold allP
    rw [List.all_append]
    congr 1
    cases hz : (sts (flat true ts)).isEmpty with
    | true =>
      rw [List.isEmpty_iff.mp hz]
      rfl
    | false =>
      rw [if_neg (by decide), List.all_cons, List.all_nil, Bool.and_true, inn_someT]
      unfold meetT
      rw [one_and]
      have lt := sts_lt okf
      generalize sts (flat true ts) = ns at lt hz
      cases ns with
      | nil => cases hz
      | cons n ns =>
        rw [List.all_cons]
        have : one n p = (one (2 ^ 256 - 1) p && one n p) := by
          match p with
          | [] => rfl
          | [b] =>
            show n.testBit b = ((2 ^ 256 - 1).testBit b && n.testBit b)
            rw [Nat.testBit_two_pow_sub_one]
            by_cases hb : b < 256
            · rw [decide_eq_true hb, Bool.true_and]
            · rw [Nat.testBit_lt_two_pow (Nat.lt_of_lt_of_le (lt n List.mem_cons_self) (Nat.pow_le_pow_right (by decide) (by omega))), Bool.and_false]
          | _ :: _ :: _ => rfl
        rw [← Bool.and_assoc, ← this]
  rw [← eP]
  rcases h.is with ⟨he, rfl⟩ | ⟨_, ks, hk, rfl⟩
  · rw [inn_nothing]
    obtain ⟨x, m, e⟩ := List.any_eq_true.mp he
    symm
    rw [List.all_eq_false]
    exact ⟨x, m, by rw [isNo_iff.mp e, inn_nothing]; decide⟩
  · rw [inn_kp_all, put_all hk]
end By
namespace By
open PySem PySem.Spec PyProof.Rows L2
def isMany (q : Bool) : T → Bool
  | .many r _ => decide (r = q)
  | _ => false
/-- what stands of the parts of any of, all of, but for their own forms -/
structure Pt (q : Bool) (ts : List T) : Prop where
  two : 2 ≤ ts.length
  nd : (ts.map fun t => (td t).shown).Nodup
  asc : (ts.map fun t => (td t).shown).Pairwise fun a b => leS a b = true
  one : (ts.filter isSome).length ≤ 1
  head : ∀ t ∈ ts, isMany q t = false ∧ t ≠ .nothing ∧ t ≠ every
mutual
def Fm : T → Prop
  | .nothing => True
  | .empty => True
  | .some n => 0 < n
  | .row a b => (isRow a = false ∧ isNo a = false ∧ isEm a = false ∧ isNo b = false ∧ isEm b = false) ∧ Fm a ∧ Fm b
  | .many q ts => Pt q ts ∧ Fms ts
  | .not a => isNot a = false ∧ Fm a
  | .again a => (isAgain a = false ∧ isNo a = false ∧ isEm a = false) ∧ Fm a
def Fms : List T → Prop
  | [] => True
  | t :: ts => Fm t ∧ Fms ts
end
theorem Fms_all {ts : List T} : Fms ts ↔ ∀ t ∈ ts, Fm t := by
  induction ts with
  | nil => unfold Fms; simp
  | cons t ts ih => unfold Fms; rw [ih]; simp
theorem fm_many {q : Bool} {ts : List T} : Fm (.many q ts) ↔ Pt q ts ∧ ∀ t ∈ ts, Fm t := by
  rw [← Fms_all]
  conv => lhs; unfold Fm
theorem fm_not {a : T} : Fm (.not a) ↔ isNot a = false ∧ Fm a := by conv => lhs; unfold Fm
theorem fm_nothing : Fm .nothing := by unfold Fm; trivial
theorem fm_some {n : Nat} : Fm (.some n) ↔ 0 < n := by conv => lhs; unfold Fm
theorem fm_every : Fm every := fm_not.mpr ⟨rfl, fm_nothing⟩
theorem fm_someT (n : Nat) : Fm (someT n) := by
  unfold someT
  split
  · exact fm_nothing
  · exact fm_some.mpr (by omega)
theorem fm_apart {q : Bool} {t : T} (h : Fm t) : ∀ x ∈ apart q t, Fm x ∧ isMany q x = false := by
  cases t with
  | many r ts =>
    intro x hx
    by_cases e : r = q
    · rw [show apart q (.many r ts) = ts from if_pos e] at hx
      subst e
      exact ⟨(fm_many.mp h).2 x hx, ((fm_many.mp h).1.head x hx).1⟩
    · rw [show apart q (.many r ts) = [.many r ts] from if_neg e] at hx
      rw [List.mem_singleton.mp hx]
      exact ⟨h, decide_eq_false e⟩
  | nothing => intro x hx; rw [List.mem_singleton.mp hx]; exact ⟨h, rfl⟩
  | empty => intro x hx; rw [List.mem_singleton.mp hx]; exact ⟨h, rfl⟩
  | some n => intro x hx; rw [List.mem_singleton.mp hx]; exact ⟨h, rfl⟩
  | row a b => intro x hx; rw [List.mem_singleton.mp hx]; exact ⟨h, rfl⟩
  | not a => intro x hx; rw [List.mem_singleton.mp hx]; exact ⟨h, rfl⟩
  | again a => intro x hx; rw [List.mem_singleton.mp hx]; exact ⟨h, rfl⟩
theorem fm_flat {q : Bool} {ts : List T} (h : ∀ t ∈ ts, Fm t) : ∀ x ∈ flat q ts, Fm x ∧ isMany q x = false := by
  intro x hx
  obtain ⟨t, ht, hx⟩ := List.mem_flatMap.mp hx
  exact fm_apart (h t ht) x hx
theorem many_someT (q : Bool) (n : Nat) : isMany q (someT n) = false := by
  unfold someT
  split <;> rfl
/-- of unlike trees of which all sets are one and the same, one at most is a set -/
theorem one_set {ks : List T} {u : T} (nd : ks.Nodup) (h : ∀ t ∈ ks, isSome t = true → t = u) : (ks.filter isSome).length ≤ 1 := by
  have nd' : (ks.filter isSome).Nodup := nd.filter _
  have h' : ∀ t ∈ ks.filter isSome, t = u := fun t m => h t (List.mem_filter.mp m).1 (List.mem_filter.mp m).2
  generalize ks.filter isSome = l at nd' h'
  match l with
  | [] => exact Nat.zero_le _
  | [t] => exact Nat.le_refl _
  | a :: b :: r =>
    exfalso
    have e1 := h' a List.mem_cons_self
    have e2 := h' b (List.mem_cons_of_mem _ List.mem_cons_self)
    rw [List.nodup_cons] at nd'
    exact nd'.1 (by rw [e1, ← e2]; exact List.mem_cons_self)
theorem nd_of_map {ks : List T} (h : (ks.map fun t => (td t).shown).Nodup) : ks.Nodup := by
  induction ks with
  | nil => exact List.nodup_nil
  | cons t ks ih =>
    rw [List.map_cons, List.nodup_cons] at h
    rw [List.nodup_cons]
    exact ⟨fun m => h.1 (List.mem_map.mpr ⟨t, m, rfl⟩), ih h.2⟩
theorem eqv_nothing_iff {t : T} : PyData.eqv (td t) (td .nothing) = false → t ≠ .nothing := by
  rintro h rfl
  have := eqv_no .nothing
  conv at h => lhs; arg 2; rw [td_nothing]
  rw [this] at h
  cases h
theorem eqv_every_iff {t : T} : PyData.eqv (td t) (td every) = false → t ≠ every := by
  rintro h rfl
  have e : isEvery every = true := isEvery_iff.mpr rfl
  unfold isEvery at e
  conv at h => lhs; arg 2; rw [td_not, td_nothing]
  rw [e] at h
  cases h
theorem fm_kp {q : Bool} {u : T} {ks : List T} (hu : Fm u) (hk : ∀ t ∈ ks, Fm t) (hp : 2 ≤ ks.length → Pt q ks) : Fm (kp q u ks) := by
  match ks with
  | [] => exact hu
  | [t] => exact hk t List.mem_cons_self
  | a :: b :: r => exact fm_many.mpr ⟨hp (by simp), hk⟩
theorem AnyOf.fm {ts : List T} {t : T} (h : AnyOf ts t) (hf : ∀ t ∈ ts, Fm t) : Fm t := by
  rcases h.is with ⟨_, rfl⟩ | ⟨he, ks, hk, rfl⟩
  · exact fm_every
  · have ff := fm_flat (q := false) hf
    have he' : ∀ x ∈ flat false ts, x ≠ every := fun x hx e => by
      have := List.any_eq_false.mp he x hx
      exact this (isEvery_iff.mpr e)
    have each : ∀ x ∈ ks, Fm x ∧ isMany false x = false ∧ x ≠ .nothing ∧ x ≠ every ∧ (isSome x = true → x = someT (unionT (flat false ts))) := by
      intro x hx
      obtain ⟨m, e⟩ := hk.mem x hx
      have n0 := eqv_nothing_iff e
      rcases List.mem_append.mp m with m | m
      · unfold oth at m
        obtain ⟨m1, m2⟩ := List.mem_filter.mp m
        obtain ⟨f1, f2⟩ := ff x m1
        refine ⟨f1, f2, n0, he' x m1, fun s => ?_⟩
        rw [s] at m2
        cases m2
      · have ex := List.mem_singleton.mp m
        refine ⟨by rw [ex]; exact fm_someT _, by rw [ex]; exact many_someT _ _, n0, ?_, fun _ => ex⟩
        rw [ex]
        unfold someT
        split
        · intro h; cases h
        · intro h; cases h
    refine fm_kp fm_nothing (fun x m => (each x m).1) fun h2 => ⟨h2, hk.nd, hk.asc, one_set (nd_of_map hk.nd) fun x m => (each x m).2.2.2.2, fun x m => ⟨(each x m).2.1, (each x m).2.2.1, (each x m).2.2.2.1⟩⟩
theorem AllOf.fm {ts : List T} {t : T} (h : AllOf ts t) (hf : ∀ t ∈ ts, Fm t) : Fm t := by
  rcases h.is with ⟨_, rfl⟩ | ⟨he, ks, hk, rfl⟩
  · exact fm_nothing
  · have ff := fm_flat (q := true) hf
    have he' : ∀ x ∈ allP ts, x ≠ .nothing := fun x hx e => by
      have := List.any_eq_false.mp he x hx
      exact this (isNo_iff.mpr e)
    have each : ∀ x ∈ ks, Fm x ∧ isMany true x = false ∧ x ≠ .nothing ∧ x ≠ every ∧ (isSome x = true → x = someT (meetT (flat true ts))) := by
      intro x hx
      obtain ⟨m, e⟩ := hk.mem x hx
      have n0 := he' x m
      have n1 := eqv_every_iff e
      unfold allP at m
      rcases List.mem_append.mp m with m | m
      · unfold oth at m
        obtain ⟨m1, m2⟩ := List.mem_filter.mp m
        obtain ⟨f1, f2⟩ := ff x m1
        refine ⟨f1, f2, n0, n1, fun s => ?_⟩
        rw [s] at m2
        cases m2
      · split at m
        · cases m
        · have ex := List.mem_singleton.mp m
          exact ⟨by rw [ex]; exact fm_someT _, by rw [ex]; exact many_someT _ _, n0, n1, fun _ => ex⟩
    refine fm_kp fm_every (fun x m => (each x m).1) fun h2 => ⟨h2, hk.nd, hk.asc, one_set (nd_of_map hk.nd) fun x m => (each x m).2.2.2.2, fun x m => ⟨(each x m).2.1, (each x m).2.2.1, (each x m).2.2.2.1⟩⟩
end By
namespace By
open PySem PySem.Spec PyProof.Rows L2
theorem nodup_len {α : Type} [DecidableEq α] : ∀ {l m : List α}, l.Nodup → (∀ x ∈ l, x ∈ m) → l.length ≤ m.length
  | [], _, _, _ => Nat.zero_le _
  | x :: l, m, h, hs => by
    rw [List.nodup_cons] at h
    have hx := hs x List.mem_cons_self
    have := nodup_len (l := l) (m := m.erase x) h.2 fun y hy => by
      have ne : y ≠ x := fun e => h.1 (e ▸ hy)
      exact (List.mem_erase_of_ne ne).mpr (hs y (List.mem_cons_of_mem _ hy))
    rw [List.length_erase_of_mem hx] at this
    have := List.length_pos_of_mem hx
    rw [List.length_cons]
    omega
theorem Al.lenU {al : List (Str × T)} {ts U : List T} (h : Al al ts) (hU : ∀ t ∈ ts, t ∈ U) : al.length ≤ U.length := by
  have := nodup_len (m := U.map fun t => (td t).shown) h.nd fun s hs => by
    obtain ⟨p, hp, rfl⟩ := List.mem_map.mp hs
    obtain ⟨h1, h2⟩ := h.key p hp
    exact List.mem_map.mpr ⟨p.2, hU _ h1, h2⟩
  rw [List.length_map, List.length_map] at this
  exact this
theorem Put.lenU {u : T} {ts ks U : List T} (h : Put u ts ks) (hU : ∀ t ∈ ts, t ∈ U) : ks.length ≤ U.length := by
  have := nodup_len (m := U.map fun t => (td t).shown) h.nd fun s hs => by
    obtain ⟨p, hp, rfl⟩ := List.mem_map.mp hs
    exact List.mem_map.mpr ⟨p, hU _ (h.mem p hp).1, rfl⟩
  rw [List.length_map, List.length_map] at this
  exact this
theorem flat_sub {q : Bool} {ts U : List T} (h : ∀ t ∈ ts, t ∈ U) : ∀ x ∈ flat q ts, x ∈ flat q U := fun x hx => by
  obtain ⟨t, ht, hx⟩ := List.mem_flatMap.mp hx
  exact List.mem_flatMap.mpr ⟨t, h t ht, hx⟩
theorem oth_sub {ts U : List T} (h : ∀ t ∈ ts, t ∈ U) : ∀ x ∈ oth ts, x ∈ oth U := fun x hx => by
  unfold oth at hx ⊢
  exact List.mem_filter.mpr ⟨h x (List.mem_filter.mp hx).1, (List.mem_filter.mp hx).2⟩
theorem flat_len (q : Bool) : ∀ (U : List T), (flat q U).length ≤ psum U
  | [] => Nat.le_refl _
  | t :: U => by
    have h1 := apart_len q t
    have h2 := flat_len q U
    show (apart q t ++ flat q U).length ≤ pa t + psum U
    rw [List.length_append]
    omega
theorem oth_len (q : Bool) (U : List T) : (oth (flat q U)).length ≤ psum U := Nat.le_trans (List.length_filter_le _ _) (flat_len q U)
theorem any_sub {ts U : List T} {n : Nat} (h : ∀ t ∈ ts, t ∈ U) : ∀ x ∈ oth (flat false ts) ++ [someT n], x ∈ oth (flat false U) ++ [someT n] := fun x hx => by
  rcases List.mem_append.mp hx with m | m
  · exact List.mem_append_left _ (oth_sub (flat_sub h) x m)
  · exact List.mem_append_right _ m
theorem all_sub {ts U : List T} (h : ∀ t ∈ ts, t ∈ U) : ∀ x ∈ allP ts, x ∈ oth (flat true U) ++ [someT (meetT (flat true ts))] := fun x hx => by
  unfold allP at hx
  rcases List.mem_append.mp hx with m | m
  · exact List.mem_append_left _ (oth_sub (flat_sub h) x m)
  · split at m
    · cases m
    · exact List.mem_append_right _ m
theorem len_sub (q : Bool) (U : List T) (n : Nat) : (oth (flat q U) ++ [someT n]).length ≤ psum U + 1 := by
  rw [List.length_append]
  have := oth_len q U
  show _ + 1 ≤ _
  omega
theorem Put.bdU {q : Bool} {u : T} {ts ks : List T} {w d p v : Nat} (h : Put u ts ks) (hu : Bd w d p v u) (ht : ∀ t ∈ ts, okT t ∧ dt t ≤ d ∧ pa t ≤ p ∧ vt t ≤ v) (hw : wts (ts.filter fun t => !PyData.eqv (td t) (td u)) ≤ w) (hl : ks.length ≤ p) : Bd w (d + 2) p (v + 2) (kp q u ks) := by
  have hw1 : 1 ≤ w := Nat.le_trans (wt_pos u) hu.w
  have hp1 : 1 ≤ p := Nat.le_trans (pa_pos u) hu.p
  have kk : ∀ t ∈ ks, okT t ∧ dt t ≤ d ∧ pa t ≤ p ∧ vt t ≤ v := fun t m => ht t (h.mem t m).1
  have h1 := h.w
  match ks, kk, h1, hl with
  | [], _, _, _ => exact hu.mono (Nat.le_refl _) (by omega) (Nat.le_refl _) (by omega)
  | [t], kk, h1, _ =>
    obtain ⟨a, b, c, e⟩ := kk t List.mem_cons_self
    have : wts [t] = wt t := by rw [wts_sum]; simp
    exact ⟨a, by show wt t ≤ w; omega, by show dt t ≤ _; omega, c, by show vt t ≤ _; omega⟩
  | a :: b :: r, kk, h1, h2 => exact bd_many kk (by omega) hw1 (by omega) hp1
theorem AnyOf.bdU {ts U : List T} {t : T} {w d p v : Nat} (h : AnyOf ts t) (ht : ∀ t ∈ ts, okT t ∧ dt t ≤ d ∧ pa t ≤ p ∧ vt t ≤ v) (hw : wts ts ≤ w) (hU : ∀ t ∈ ts, t ∈ U) (hp : psum U + 1 ≤ p) (hd : 1 ≤ d) (hv : 1 ≤ v) (hw1 : 1 ≤ w) : Bd w (d + 2) p (v + 2) t := by
  obtain ⟨f1, f2, f3⟩ := flat_bd (q := false) ht
  obtain ⟨o1, o2, o3⟩ := oth_bd f1
  have hp1 : 1 ≤ p := by omega
  rcases h.is with ⟨_, rfl⟩ | ⟨_, ks, hk, rfl⟩
  · exact every_bd.mono (by omega) (by omega) (by omega) (by omega)
  · have sb := someT_bd (union_lt fun t m => (f1 t m).1)
    have hin : ∀ x ∈ oth (flat false ts) ++ [someT (unionT (flat false ts))], okT x ∧ dt x ≤ d ∧ pa x ≤ p ∧ vt x ≤ v := fun x m => by
      rcases List.mem_append.mp m with m | m
      · exact o1 x m
      · rw [List.mem_singleton.mp m]
        exact ⟨sb.ok, Nat.le_trans sb.d hd, Nat.le_trans sb.p (by omega), Nat.le_trans sb.v hv⟩
    have key := filter_oth (u := .nothing) (oth (flat false ts)) (unionT (flat false ts)) false
    simp only [Bool.false_eq_true, if_false] at key
    have key2 : wts ((oth (flat false ts) ++ [someT (unionT (flat false ts))]).filter fun t => !PyData.eqv (td t) (td .nothing)) ≤ w := by
      by_cases z : (sts (flat false ts)).length = 0
      · have e : sts (flat false ts) = [] := List.eq_nil_of_length_eq_zero z
        have e2 : someT (unionT (flat false ts)) = .nothing := by
          unfold unionT
          rw [e]
          rfl
        rw [e2, filter_no]
        have h1 := wts_filter (fun t => !PyData.eqv (td t) (td .nothing)) (oth (flat false ts))
        omega
      · omega
    exact hk.bdU (bd_nothing.mono hw1 hd hp1 hv) hin key2 (Nat.le_trans (hk.lenU (any_sub hU)) (Nat.le_trans (len_sub _ _ _) hp))
theorem AllOf.bdU {ts U : List T} {t : T} {w d p v : Nat} (h : AllOf ts t) (ht : ∀ t ∈ ts, okT t ∧ dt t ≤ d ∧ pa t ≤ p ∧ vt t ≤ v) (hw : wts ts ≤ w) (hU : ∀ t ∈ ts, t ∈ U) (hp : psum U + 1 ≤ p) (hd : 2 ≤ d) (hv : 2 ≤ v) (hw1 : 1 ≤ w) : Bd w (d + 2) p (v + 2) t := by
  obtain ⟨f1, f2, f3⟩ := flat_bd (q := true) ht
  obtain ⟨o1, o2, o3⟩ := oth_bd f1
  have hp1 : 1 ≤ p := by omega
  rcases h.is with ⟨_, rfl⟩ | ⟨_, ks, hk, rfl⟩
  · exact bd_nothing.mono (by omega) (by omega) (by omega) (by omega)
  · have sb := someT_bd (meet_lt (flat true ts))
    have hin : ∀ x ∈ allP ts, okT x ∧ dt x ≤ d ∧ pa x ≤ p ∧ vt x ≤ v := fun x m => by
      rcases List.mem_append.mp m with m | m
      · exact o1 x m
      · split at m
        · cases m
        · rw [List.mem_singleton.mp m]
          exact ⟨sb.ok, Nat.le_trans sb.d (by omega), Nat.le_trans sb.p (by omega), Nat.le_trans sb.v (by omega)⟩
    have e0 : wts [] = 0 := by rw [wts_sum]; rfl
    have h1 := wts_filter (fun t => !PyData.eqv (td t) (td every)) (allP ts)
    have key : wts (allP ts) ≤ w := by
      unfold allP
      rw [wts_app]
      split
      · rw [e0]; omega
      · rename_i z
        have : (sts (flat true ts)).length ≠ 0 := fun e => z (by rw [List.eq_nil_of_length_eq_zero e]; rfl)
        have := sb.w
        rw [wts_cons, e0]
        omega
    exact hk.bdU (every_bd.mono hw1 hd hp1 hv) hin (by omega) (Nat.le_trans (hk.lenU (all_sub hU)) (Nat.le_trans (len_sub _ _ _) hp))
def tim (f : List Nat → Bool) (l : Nat) (m : Option Nat) (p : List Nat) : Prop := ∃ j, l ≤ j ∧ (∀ x, m = some x → j ≤ x) ∧ reps f j p = true
end By
namespace By
open PySem PySem.Spec PyProof.Rows L2
theorem asc_uniq : ∀ {l m : List T}, l.Nodup → m.Nodup → (l.map fun t => (td t).shown).Pairwise (fun a b => leS a b = true) → (m.map fun t => (td t).shown).Pairwise (fun a b => leS a b = true) → (∀ x, x ∈ l ↔ x ∈ m) → l = m
  | [], m, _, _, _, _, h => by
    cases m with
    | nil => rfl
    | cons y m => exact absurd ((h y).mpr List.mem_cons_self) List.not_mem_nil
  | x :: l, m, n1, n2, a1, a2, h => by
    cases m with
    | nil => exact absurd ((h x).mp List.mem_cons_self) List.not_mem_nil
    | cons y m =>
      rw [List.map_cons, List.pairwise_cons] at a1 a2
      rw [List.nodup_cons] at n1 n2
      have e : x = y := by
        rcases List.mem_cons.mp ((h x).mp List.mem_cons_self) with e | mx
        · exact e
        · rcases List.mem_cons.mp ((h y).mpr List.mem_cons_self) with e | my
          · exact e.symm
          · exact shown_inj (leS_anti _ _ (a1.1 _ (List.mem_map.mpr ⟨y, my, rfl⟩)) (a2.1 _ (List.mem_map.mpr ⟨x, mx, rfl⟩)))
      subst e
      congr 1
      refine asc_uniq n1.2 n2.2 a1.2 a2.2 fun z => ⟨fun hz => ?_, fun hz => ?_⟩
      · rcases List.mem_cons.mp ((h z).mp (List.mem_cons_of_mem _ hz)) with e | q
        · subst e; exact absurd hz n1.1
        · exact q
      · rcases List.mem_cons.mp ((h z).mpr (List.mem_cons_of_mem _ hz)) with e | q
        · subst e; exact absurd hz n2.1
        · exact q
theorem Put.uniq {u : T} {ts ks ks' : List T} (h : Put u ts ks) (h' : Put u ts ks') : ks = ks' :=
  asc_uniq (nd_of_map h.nd) (nd_of_map h'.nd) h.asc h'.asc fun x => by rw [put_mem h, put_mem h']
theorem AnyOf.uniq {ts : List T} {t t' : T} (h : AnyOf ts t) (h' : AnyOf ts t') : t = t' := by
  rcases h.is with ⟨a, e⟩ | ⟨a, ks, k1, e⟩ <;> rcases h'.is with ⟨b, e'⟩ | ⟨b, ks', k2, e'⟩
  · rw [e, e']
  · rw [a] at b; cases b
  · rw [a] at b; cases b
  · rw [e, e', k1.uniq k2]
theorem AllOf.uniq {ts : List T} {t t' : T} (h : AllOf ts t) (h' : AllOf ts t') : t = t' := by
  rcases h.is with ⟨a, e⟩ | ⟨a, ks, k1, e⟩ <;> rcases h'.is with ⟨b, e'⟩ | ⟨b, ks', k2, e'⟩
  · rw [e, e']
  · rw [a] at b; cases b
  · rw [a] at b; cases b
  · rw [e, e', k1.uniq k2]
end By
namespace By
open PySem PySem.Spec PyProof.Rows L2
section
variable {M : Mem} {a b c d : PyData} {ρ ρ1 : Rho}
def kTg (tg : Tg) (ρ : Rho) : W → Mem → R Out := fun w M1 => match tg.den w ρ with
  | some ρ1 => .ok (.nx ρ1) M1
  | none => .bot
theorem x_settg {tg : Tg} {te : DE} : dSetTg tg te ρ M = (te ρ M).bind (kTg tg ρ) := hd rfl
theorem x_ktg {tg : Tg} {w : W} (h : tg.den w ρ = some ρ1) : kTg tg ρ w M = .ok (.nx ρ1) M := by
  unfold kTg
  rw [h]
end
end By
namespace By
open PySem PySem.Spec PyProof.Rows L2
def kFld (C : Addr) (f : Str) : W → Mem → R W := fun u M1 => match getF C M1 f u with
  | some w => .ok w M1
  | none => .bot
def kSetF (C : Addr) (f : Str) (ρ : Rho) (w : W) : W → Mem → R Out := fun u M2 => match fSetF C f M2 u w with
  | some M3 => .ok (.nx ρ) M3
  | none => .bot
def kMeth (C : Addr) (nm : Str) (F : FD) (t : DA) (ρ : Rho) : W → Mem → R W := fun u M1 => if isIns C nm M1 u = true then (t ρ M1).bind fun ws M2 => F (u :: ws) M2 else .bot
def kMake (n : Nat) : W → Mem → R W := fun w M2 => match w with
  | .d .none => .ok (.r n) M2
  | _ => .bot
def kRaise (ok : PyData → Bool) (C : Addr) (fld : Str) : W → Mem → R Out := fun w M1 => match w with
  | .d d => if ok d = true then .ex ⟨.ref C, [(fld, d)]⟩ M1 else .bot
  | _ => .bot
def kErr (C : Addr) (fld : Str) : R W → R W := fun r => match r with
  | .ok _ M1 => .ok (.d (.tuple [])) M1
  | .ex e M1 => if e.cls = .ref C then (match lookD fld e.fs with
    | some d => .ok (.d (.tuple [d])) M1
    | none => .bot) else .bot
  | .bot => .bot
def kCh2 (g : F2) (v : W) : W → Mem → R W := fun w M4 => (g v w M4).bind fun d' M5 => match d' with
    | .d (.bool b) => .ok (.d (.bool b)) M5
    | _ => .bot
def kCh (g : F2) (tc : DE) (ρ : Rho) (v : W) : W → Mem → R W := fun d M3 => match d with
  | .d (.bool true) => (tc ρ M3).bind (kCh2 g v)
  | .d (.bool false) => .ok (.d (.bool false)) M3
  | _ => .bot
def kCh3 : W → Mem → R W := fun d' M5 => match d' with
    | .d (.bool b) => .ok (.d (.bool b)) M5
    | _ => .bot
def kRep (w : W) : W → Mem → R W := fun u M2 => match u with
  | .d (.int k) => if -1000000 ≤ k ∧ k ≤ 1000000 then .ok (.r M2.length) (M2 ++ [.lst (List.replicate k.toNat w)]) else .bot
  | _ => .bot
def kPar (i j : Nat) (ρ : Rho) : List W → Mem → R Out := fun ws M1 => match ws with
  | [u, w] => .ok (.nx ((ρ.set i (some u)).set j (some w))) M1
  | _ => .bot
section
variable {α β : Type} {t u : DS} {te tb tc to ti : DE} {ta : DA} {tt tu : DT} {ρ : Rho} {M M1 : Mem} {w v : W} {i j : Nat} {C : Addr} {f : Str} {F : FD} {fs : List (Str × W)} {g g2 : F2} {e : Exn} {d : PyData} {ok : PyData → Bool}
theorem x_fld : dFld C f te ρ M = (te ρ M).bind (kFld C f) := hd rfl
theorem getF_at (h : M[j]? = some (.ins C fs)) (hf : fs.lookup f = some w) : getF C M f (.r j) = some w := by
  unfold getF
  simp only [h, if_true, hf]
theorem x_kfld (h : M[j]? = some (.ins C fs)) (hf : fs.lookup f = some w) : kFld C f (.r j) M = .ok w M := by
  unfold kFld
  rw [getF_at h hf]
theorem x_setf : dSetF C f te to ρ M = (te ρ M).bind fun w M1 => (to ρ M1).bind (kSetF C f ρ w) := hd rfl
theorem x_ksetf (h : M[j]? = some (.ins C fs)) (hl : fs.length < 1000) : kSetF C f ρ w (.r j) M = .ok (.nx ρ) (M.set j (.ins C (putFW f w fs))) := by
  unfold kSetF fSetF
  simp only [h, hl, and_self, if_true]
theorem x_meth : dMeth C f F to ta ρ M = (to ρ M).bind (kMeth C f F ta ρ) := hd rfl
theorem x_kmeth (h : M[j]? = some (.ins C fs)) (hf : fs.lookup f = none) : kMeth C f F ta ρ (.r j) M = (ta ρ M).bind fun ws M2 => F (.r j :: ws) M2 := by
  refine if_pos ?_
  unfold isIns
  simp only [h, hf, decide_true, Option.isNone_none, Bool.and_self]
theorem x_make : dMake C F ta ρ M = (ta ρ M).bind fun ws M1 => (F (.r M1.length :: ws) (M1 ++ [.ins C []])).bind (kMake M1.length) := hd rfl
theorem x_kmake : kMake i (.d .none) M = .ok (.r i) M := hd rfl
theorem x_bindX (h : α → Mem → R β) : (R.ex e M).bind h = .ex e M := hd rfl
theorem x_chain : dChain g g2 te tb tc ρ M = (te ρ M).bind fun u M1 => (tb ρ M1).bind fun v M2 => (g u v M2).bind (kCh g2 tc ρ v) := hd rfl
theorem x_kchT : kCh g2 tc ρ v (.d (.bool true)) M = (tc ρ M).bind (kCh2 g2 v) := hd rfl
theorem x_kchF : kCh g2 tc ρ v (.d (.bool false)) M = .ok (.d (.bool false)) M := hd rfl
theorem x_kch2 : kCh2 g2 v w M = (g2 v w M).bind kCh3 := hd rfl
theorem x_kch3 {b : Bool} : kCh3 (.d (.bool b)) M = .ok (.d (.bool b)) M := hd rfl
theorem x_par : dPar i j ta ρ M = (ta ρ M).bind (kPar i j ρ) := hd rfl
theorem x_kpar : kPar i j ρ [v, w] M = .ok (.nx ((ρ.set i (some v)).set j (some w))) M := hd rfl
end
theorem def_ex {n N : Nat} {body : DS} {ws : List W} {M : Mem} {e : Exn} (hn : ws.length = n) (h : body (ws.map some ++ List.replicate (N - n) none) M = .ex e M) : defD n N body ws M = .ex e M := by
  unfold defD
  rw [if_pos hn, h]
  have k : kept M M := ⟨Nat.le_refl _, fun j _ => .inl rfl⟩
  simp only [k, if_true, List.take_length]
theorem defK_no {n N : Nat} {body : DS} {ws : List W} {M M' : Mem} {ρ : Rho} (hn : ws.length = n) (h : body (ws.map some ++ List.replicate (N - n) none) M = .ok (.nx ρ) M') : defK n N body ws M = .ok (.d .none) M' := by
  unfold defK
  rw [if_pos hn, h]
end By
namespace By
open PySem PySem.Spec PyProof.Rows L2
abbrev ch (c : Nat) : Str := ⟨#[c]⟩
abbrev txt (l : List Nat) : Str := ⟨l.toArray⟩
section
variable {te to tb : DE} {ρ : Rho} {M : Mem} {w u x : W} {i j : Nat} {C : Addr} {f : Str} {fs : List (Str × W)} {g : F2} {a b c : Nat} {l : List Nat} {z : Str}
theorem x_ixs {p : Nat} (h : l[p]? = some c) (hl : l.length ≤ 1000000) : fIxS (.d (.str (txt l))) (.d (.int ((p : Nat) : Int))) M = .ok (.d (.str (ch c))) M := by
  unfold fIxS
  have e : getI (txt l).cps.toList ((p : Nat) : Int) = some c := by rw [getI_nat]; exact h
  have e2 : (txt l).length ≤ 1000000 := by
    show l.toArray.size ≤ 1000000
    rw [List.size_toArray]
    exact hl
  simp only [e2, if_true, e]
theorem ch_eq : (ch a == ch b) = decide (a = b) := by
  by_cases h : a = b
  · subst h
    rw [decide_eq_true rfl]
    exact beq_self_eq_true _
  · rw [decide_eq_false h]
    cases q : (ch a == ch b) with
    | false => rfl
    | true =>
      have := eq_of_beq q
      have e2 := congrArg (fun s : Str => s.cps.toList) this
      simp only [List.cons.injEq, and_true] at e2
      exact absurd e2 h
theorem x_tx {F : Str → F1} : dTx F to te ρ M = (to ρ M).bind (kTxt F te ρ) := hd rfl
theorem x_ktx {F : Str → F1} : kTxt F te ρ (.d (.str z)) M = (te ρ M).bind fun u M2 => F z u M2 := hd rfl
theorem x_join {ys : List Str} (h : (ys.map (·.length)).sum + ys.length * z.length ≤ 1000000) : fJoin z (.d (.list (ys.map .str))) M = .ok (.d (.str (Txt.join z ys))) M := by
  have e : sqD M (.d (.list (ys.map PyData.str))) = some (ys.map .str) := rfl
  unfold fJoin
  rw [e]
  simp only [allS_map, h, if_true]
theorem x_split {y : Str} (h : (z.length == 0) = false) (hl : y.length + 2 ≤ 1000000) : fSplit y (.d (.str z)) M = .ok (.d (.list ((Txt.split y z).map .str))) M := if_pos ⟨h, hl⟩
theorem x_isStr : fIsStr (.d (.str z)) M = .ok (.d (.bool true)) M := hd rfl
end
end By
namespace By
open PySem PySem.Spec PyProof.Rows L2
def dPar3 (i j h : Nat) (t : DA) : DS := fun ρ M => (t ρ M).bind fun ws M1 => match ws with
  | [u, v, w] => .ok (.nx (((ρ.set i (some u)).set j (some v)).set h (some w))) M1
  | _ => .bot
section
variable {X : Cx} {E : XK} {a b c : Expr} {t : DA}
theorem qs_par3 {i j h : Nat} {x y z : Str} {px py pz pt pt2 pos : Pos} {kt k2 : Nat} (hc : X.calm = true) (nd : X.N.Nodup) (hi : X.N[i]? = some x) (hj : X.N[j]? = some y) (hh : X.N[h]? = some z) (hx : Loc X.env.scope x) (hy : Loc X.env.scope y) (hz : Loc X.env.scope z) (ha : QA X E [a, b, c] t)
    (hs : swapsWithSole [.Tuple [.Name x px, .Name y py, .Name z pz] kt pt] (.Tuple [a, b, c] k2 pt2) pos.line X.env = pure false := by rfl) (hw : swappedStores [.Tuple [.Name x px, .Name y py, .Name z pz] kt pt] (.Tuple [a, b, c] k2 pt2) X.env = pure none := by rfl)
    (fx : X.fn x = true ∨ X.env.scope.names.lookup x = some .local := by first | exact .inl rfl | exact .inr rfl) (fy : X.fn y = true ∨ X.env.scope.names.lookup y = some .local := by first | exact .inl rfl | exact .inr rfl) (fz : X.fn z = true ∨ X.env.scope.names.lookup z = some .local := by first | exact .inl rfl | exact .inr rfl)
    (h1 : (assignEach [.Tuple [.Name x px, .Name y py, .Name z pz] kt pt] X.env).map (·.2) = [assign (.Tuple [.Name x px, .Name y py, .Name z pz] kt pt) X.env] := by rfl) :
    QS X E (.Assign [.Tuple [.Name x px, .Name y py, .Name z pz] kt pt] (.Tuple [a, b, c] k2 pt2) pos) (dPar3 i j h t) :=
  PS.imp (ps_asg (pe_tup ha) (pg_tup hc (pgs_cons (pg_name nd hi hx fx) (pgs_cons (pg_name nd hj hy fy) (pgs_cons (pg_name nd hh hz fz) pgs_nil)))) hs hw h1) fun D σ H ⟨m, z, ρ, M, hs, hm, hp⟩ => ⟨m, z, ρ, M, hs, hm, (Post.unbind hp).imp fun ws M1 m1 H1 _ e1 hm1 hp1 vs rvs => by
    split at hp1
    · cases rvs with
      | cons r1 r2 =>
      cases r2 with
      | cons r2 r3 =>
      cases r3 with
      | cons r3 r4 =>
      cases r4
      refine ⟨(by rw [sizeLine_eq]; exact (by decide : (3 : Nat) ≤ 16777216)), fun p hp0 => ⟨p, _, rfl, .inl (Rd.of upd_same), rfl, _, _, rfl, _, _, rfl, _, _, rfl, rfl, ?_⟩⟩
      exact hp1 m1 _ (Ext.new hp0) (hm1.new hp0) _ (((((hs.mono e1).mono (Ext.new hp0)).set (r1.mono (Ext.new hp0))).set (r2.mono (Ext.new hp0))).set (r3.mono (Ext.new hp0)))
    · exact hp1.elim⟩
theorem qs_par3s {i j h : Nat} {x y z : Str} {px py pz pt pt2 pos : Pos} {kt k2 : Nat} (q : PS X (.Assign [.Tuple [.Name x px, .Name y py, .Name z pz] kt pt] (.Tuple [a, b, c] k2 pt2) pos) (tPar3 i j h (LA X.K E t))) :
    QS X E (.Assign [.Tuple [.Name x px, .Name y py, .Name z pz] kt pt] (.Tuple [a, b, c] k2 pt2) pos) (dPar3 i j h t) := PS.imp q fun D σ H ⟨m, z, ρ, M, hs, hm, hp⟩ => ⟨m, z, ρ, M, hs, hm, (Post.unbind hp).imp fun ws M1 m1 H1 _ e1 hm1 hp1 vs rvs => by
    split at hp1
    · cases rvs with
      | cons r1 r2 =>
      cases r2 with
      | cons r2 r3 =>
      cases r3 with
      | cons r3 r4 =>
      cases r4
      exact ⟨_, _, _, rfl, Post.now (k := kS X.K z D) hp1 hm1 _ ((((hs.mono e1).set r1).set r2).set r3)⟩
    · exact hp1.elim⟩
end
def kPar3 (i j h : Nat) (ρ : Rho) : List W → Mem → R Out := fun ws M1 => match ws with
  | [u, v, w] => .ok (.nx (((ρ.set i (some u)).set j (some v)).set h (some w))) M1
  | _ => .bot
theorem x_par3 {i j h : Nat} {t : DA} {ρ : Rho} {M : Mem} : dPar3 i j h t ρ M = (t ρ M).bind (kPar3 i j h ρ) := rfl
theorem x_kpar3 {i j h : Nat} {ρ : Rho} {M : Mem} {u v w : W} : kPar3 i j h ρ [u, v, w] M = .ok (.nx (((ρ.set i (some u)).set j (some v)).set h (some w))) M := rfl
end By
namespace By
open PySem PySem.Spec PyProof.Rows L2 PySem.W
def hexD (d : Nat) : Nat := if d < 10 then 48 + d else 87 + d
def hex2 (n : Nat) : List Nat := [hexD (n / 16), hexD (n % 16)]
end By
namespace By
open PySem PySem.Spec PyProof.Rows L2
/-- a number as two figures of sixteen -/
def dHex (te : DE) : DE := fun ρ M => (te ρ M).bind fun w M1 => match w with
  | .d (.int i) => if 0 ≤ i ∧ i < 256 then .ok (.d (.str (txt (hex2 i.toNat)))) M1 else .bot
  | _ => .bot
/-- a text as it is -/
def dFmS (te : DE) : DE := fun ρ M => (te ρ M).bind fun w M1 => match w with
  | .d (.str y) => if y.length ≤ 1000000 then .ok (.d (.str y)) M1 else .bot
  | _ => .bot
def dJs : List DE → Str → DE
  | [], acc => fun _ M => .ok (.d (.str acc)) M
  | t :: ts, acc => fun ρ M => (t ρ M).bind fun w M1 => match w with
    | .d (.str y) => if acc.length + y.length ≤ 1000000 then dJs ts (acc ++ y) ρ M1 else .bot
    | _ => .bot
def kJs (ts : List DE) (acc : Str) (ρ : Rho) : W → Mem → R W := fun w M1 => match w with
  | .d (.str y) => if acc.length + y.length ≤ 1000000 then dJs ts (acc ++ y) ρ M1 else .bot
  | _ => .bot
def dFs (ts : List DE) : DE := dJs ts Str.empty
section
variable {X : Cx} {E : XK} {e v1 v2 : Expr} {es rest : List Expr} {te t : DE} {tt : TE} {ts : List DE} {p1 p2 p3 pos : Pos} {j1 j2 : Nat}
def tHex (te : TE) : TE := fun σ H Q => te σ H fun x H1 => ∃ n : Nat, x = .int ((n : Nat) : Int) ∧ n < 256 ∧ Q (.str (txt (hex2 n))) H1
/-- the parts -/
inductive QJ (X : Cx) (E : XK) : List Expr → List DE → Prop where
  | nil : QJ X E [] []
  | cons {e : Expr} {t : DE} {es : List Expr} {ts : List DE} (h : QE X E e t) (r : QJ X E es ts) : QJ X E (e :: es) (t :: ts)
end
section
variable {ρ : Rho} {M : Mem} {te : DE} {w : W} {t : DE} {ts : List DE} {acc y : Str}
def kHex : W → Mem → R W := fun w M1 => match w with
  | .d (.int i) => if 0 ≤ i ∧ i < 256 then .ok (.d (.str (txt (hex2 i.toNat)))) M1 else .bot
  | _ => .bot
def kFmS : W → Mem → R W := fun w M1 => match w with
  | .d (.str y) => if y.length ≤ 1000000 then .ok (.d (.str y)) M1 else .bot
  | _ => .bot
end
end By
namespace By
open PySem PySem.Spec PyProof.Rows L2
def isTupD : W → Option Bool
  | .d (.bool _) => some false
  | .d (.int _) => some false
  | .d .none => some false
  | .d (.str _) => some false
  | .d (.list _) => some false
  | .d (.tuple _) => some true
  | _ => none
def fIsTup : F1 := fun w M => match isTupD w with
  | some b => .ok (.d (.bool b)) M
  | none => .bot
section
variable {X : Cx} {E : XK} {a b e tgE : Expr} {ta tb te : DE} {p p2 pos apos : Pos}
end
end By
namespace By
open PySem PySem.Spec PyProof.Rows L2
open Sem (wp)
/-- an exception that is no StopIteration, whoever asks -/
def NoStop (prog : Program) (w : World) (e : Value) (s : Shared) : Prop := ∀ (A : Around) (E : Value → Shared → Prop) (Q : Bool → Shared → Prop) (g : Array GenState), Q false { s with gens := g } → wpAny (model prog w) A (isInstance e (.type "StopIteration")) Q E { s with gens := g }
abbrev GEndX (P : Nat → Shared → Shared → Prop) (F : Value → Shared → Prop) : GenEnd := fun n s₀ r s => (r = .ok .next ∧ P n s₀ s) ∨ ∃ e, r = .error e ∧ F e s
section
variable {prog : Program} {w : World} {A : Around} {E : Value → Shared → Prop} {s : Shared}
theorem wpAny_pyNext_genexpX {a : Addr} {g n : Nat} {gs : GenState} {P : Nat → Shared → Shared → Prop} {F : Value → Shared → Prop} {Y : Protocol} {Q : Option Value → Shared → Prop} (hh : A.handled = none)
    (hl : s.heap.NoLimit) (hroom : A.depth < recursionLimit)
    (hg : s.heap.IsGen a g) (hgs : s.gens[g]? = some gs)
    (hgo : gs.Goes (model prog w) A.in1 (GEndX P F) Y n (.send .none) (s.setGen g .running))
    (hY : ∀ v s₁ gs', gs'.bare = true → Y (n - 1) (s.setGen g .running) v s₁ (fun r' s'' => match n with
        | 0 => False
        | m + 1 => gs'.Goes (model prog w) A.in1 (GEndX P F) Y m r' s'') → Q (some v) (s₁.setGen g gs'))
    (hP : ∀ s₁, P n (s.setGen g .running) s₁ → ∀ h', (∀ b o, s₁.heap.get? b = some o → h'.get? b = some o) → Q none { s₁.setGen g .finished with heap := h' })
    (hF : ∀ e s₁, F e s₁ → s₁.heap.IsGen a g ∧ NoStop prog w e s₁ ∧ E e (s₁.setGen g .finished)) :
    wpAny (model prog w) A (pyNext (.ref a)) Q E s := by
  unfold pyNext
  refine wpAny_bind (wpAny_attempt (wpAny_callSpecial?_slot (name := Str.ofString "__next__") hg.typeIs slot_gen_next
    (wpAny_call_entry slot_gen_next hg.typeIs entry_gen_next ?_ (args_gen_next _))))
  show wpAny _ A.in1 (Builtin.Generator.genWake (.ref a) (.send .none)) _ _ s
  unfold Builtin.Generator.genWake
  refine wpAny_bind (wpAny_holding (wpAny_genNumber hg (wpAny_bind (wpAny_genState hgs ?_))))
  cases gs with
  | running => exact hgo.elim
  | finished => exact hgo.elim
  | _ =>
    refine wpAny_bind (wpAny_roomToWake hl hroom ?_)
    show wpAny _ A.in1 (.resume g (.send .none) [] _) _ _ s
    refine wpAny_resumeQ hgs hgo (fun x s₁ hx => ?_) (fun v s₁ gs' hb hv => ?_)
    · rcases hx with ⟨rfl, hp⟩ | ⟨e, rfl, hf⟩
      · show wpAny _ A.in1 (newExc (.type "StopIteration") [] >>= _) _ _ _
        refine wpAny_bind ?_
        simp only [newExc, newTuple]
        refine wpAny_bind (wpAny_newObj_type ?_ (by size_fits))
        refine wpAny_bind (m := firstArgMember _ _) (wpAny_of_eq (a := Value.none) (by first | rfl | (simp only [firstArgMember]; rfl)) ?_)
        refine wpAny_newObj_type ?_ (by size_fits)
        simp only [raiseNew]
        refine wpAny_bind (wpAny_bind (wpAny_handled ?_))
        first | rw [show A.in1.handled = none from hh] | rw [hh]
        refine wpAny_throw ?_
        refine wpAny_bind (wpAny_isInstance (T := "StopIteration") (b := true) ⟨_, Heap.get?_push_size _ rfl, rfl⟩ isSubtype_stop ?_)
        exact wpAny_pure (hP s₁ hp _ fun b o hb => Heap.get?_push_of_some _ (Heap.get?_push_of_some _ hb))
      · obtain ⟨hig, hns, hE⟩ := hF e s₁ hf
        obtain ⟨o, nm, qn, ho, _⟩ := hig
        show wpAny _ A.in1 (Builtin.Generator.genLeft (.ref a) e) _ _ (s₁.setGen g .finished)
        unfold Builtin.Generator.genLeft Builtin.Generator.madeByALambda
        refine wpAny_bind (wpAny_bind (wpAny_load ho ?_))
        refine wpAny_pure ?_
        refine wpAny_bind (hns _ _ _ (s₁.setGen g .finished).gens ?_)
        simp only [Bool.and_false, Bool.false_eq_true, if_false]
        unfold Builtin.Generator.genEscaped
        refine wpAny_bind (hns _ _ _ (s₁.setGen g .finished).gens ?_)
        refine wpAny_throw ?_
        show wpAny _ A (isInstance e (.type "StopIteration") >>= _) _ _ _
        refine wpAny_bind (hns _ _ _ (s₁.setGen g .finished).gens ?_)
        exact wpAny_throw hE
    · exact wpAny_pure ⟨v, rfl, wpAny_pure (hY v s₁ gs' hb hv)⟩
end
end By
namespace By
open PySem PySem.Spec PyProof.Rows L2
open Sem (wp)
structure UBf (ex fs : List Addr) (H H' : Hp) (h B h' : Heap) : Prop where
  keep : ∀ b o, h.get? b = some o → H b = none → b ∉ fs → b ∉ ex → B.get? b = some o
  slot : ∀ b o, h.get? b = some o → b ∈ fs → ∃ sl, h'.get? b = some { o with slots := sl }
  free : ∀ b o, h.get? b = some o → H b = none → b ∉ ex → H' b = none
  there : ∀ b o, h.get? b = some o → b ∉ fs → b ∉ ex → ∃ o', B.get? b = some o'
  tups : ∀ b xs, H b = some (.tup xs) → H' b = some (.tup xs)
  frzs : ∀ b o xs, H b = some (.frz o xs) → H' b = some (.frz o xs)
  tbls : ∀ b ps, H b = some (.tbl ps) → ∃ more, H' b = some (.tbl (ps ++ more))
/-- what an exception leaves behind; ex: the cells of the iterator -/
def CXf (P : Program) (w : World) (outer : List Env) (ex : List Addr) (H : Hp) (s : Shared) (E : XK) (u : Value) (s' : Shared) : Prop :=
  ∃ (a : Addr) (B : Heap) (H' : Hp) (cls : Value) (d : Option Addr), u = .ref a ∧ HandSPX.FlyingZ B outer a (Zc cls d) s'.heap ∧ HOk P w H' B ∧ UBf ex (frs outer) H H' s.heap B s'.heap ∧ H' a = none ∧ s'.os = s.os ∧ AllBare s'.gens ∧ E cls d H'
theorem XE.leaveF {X : Cx} {W : WX} {E : XK} {s' : Shared} (hs : X.stack = X.env :: X.outer) (hf : X.env.frame = some X.env.locals) {E₁ : Value → Shared → Prop} (hW : ∀ cls d σ H, W cls d σ H → E cls d H) {u : Value} (x : XE X W u s') :
    wpAny (model X.prog X.w) X.A (leaving X.env u) (fun _ s'' => CXf X.prog X.w X.outer X.ex X.H_0 X.s_0 E u s'' ∧ ∀ p ∈ X.pn, s''.heap.get? p.1 = some p.2) E₁ s' := by
  obtain ⟨a, B, sI, pins, σ, H, cls, d, rfl, I, nb, up, sky, na, os, ag, w⟩ := x
  have hfr : X.A.frames = some (X.env :: X.outer) := by rw [I.ok.frames, hs]
  have nst : ∀ b o, X.s_0.heap.get? b = some o → b ∉ X.fs → b ∉ frs X.stack := fun b o e hb hm => by
    rcases List.mem_cons.mp (I.stkSub b hm) with z | z
    · have h1 := Heap.lt_size e
      have h2 := I.ok.above
      rw [z] at h1
      exact absurd (Nat.lt_of_lt_of_le h1 h2) (Nat.lt_irrefl _)
    · exact hb z
  have hokB := I.inGround nb
  have pinB : ∀ p ∈ X.pn, B.get? p.1 = some p.2 := fun p hp => by
    obtain ⟨h1, _, h3, h4, _⟩ := I.pin p (List.mem_append_left _ hp)
    refine nb p.1 p.2 h1 fun hm => ?_
    rcases List.mem_cons.mp (I.stkSub p.1 hm) with z | z
    · exact h3 z
    · exact h4 z
  have fin : ∀ h', HandSPX.FlyingZ B X.outer a (Zc cls d) h' → s'.heap.UpToSlots h' → (CXf X.prog X.w X.outer X.ex X.H_0 X.s_0 E (.ref a) { s' with heap := h' } ∧ ∀ p ∈ X.pn, ({ s' with heap := h' } : Shared).heap.get? p.1 = some p.2) := fun h' fl up' => by
    refine ⟨⟨a, B, H, cls, d, rfl, fl, hokB, ⟨fun b o e n hb hx => nb b o (I.base.keep b o e n hb hx) (nst b o e hb), fun b o e hb => ?_, fun b o e n hx => I.base.free b o e n hx, fun b o e hb hx => ?_, I.base.tups, I.base.frzs, I.base.tbls⟩,
      na, os.trans I.os, ag, hW _ _ _ _ w⟩, fun p hp => fl.1 p.1 p.2 (pinB p hp)⟩
    · obtain ⟨_, o₀, e₀, hnf⟩ := I.ok.funs.mem hb
      rw [e] at e₀; cases e₀
      obtain ⟨sl, e1⟩ := I.base.slot b o e (I.ok.frf b hb) hb (fun hx => I.ok.exfs b hx hb)
      obtain ⟨sl2, e2⟩ := up b _ e1 hnf
      obtain ⟨sl3, e3⟩ := up' b _ e2 hnf
      exact ⟨sl3, e3⟩
    · obtain ⟨o', e1⟩ := I.base.there b o e hx
      exact ⟨o', nb b o' e1 (nst b o e hb)⟩
  rw [hs] at sky
  rcases sky with ⟨hB, hn, hl, oe, vs, he, hz, hd, h1⟩ | fl | hd
  · exact HandSPX.leaving_firstZ Zc.steady hfr hl hf he hB hn hd h1 hz fin
  · exact HandSPX.leaves_onZ Zc.steady hfr hf fl fin
  · exact HandSPX.leaves_heldZ hf hd fin
end By
namespace By
open PySem PySem.Spec PyProof.Rows L2
open Sem (wp)
noncomputable def gloopX (C : Value) (all : List W) (g : Gd) (tg : Tg) (c : DT) (te : DE) (ρ0 : Rho) : List W → Mem → R (List W × Option Exn)
  | [] => fun M => open Classical in if gOk g all M then .ok ([], none) M else .bot
  | w :: ws => fun M => open Classical in if gOk g all M then (match tg.den w ρ0 with
    | some ρ1 => (noEx (c ρ1 M)).bind fun k M1 => if k = true then (match te ρ1 M1 with
      | .ok x M2 => (gloopX C all g tg c te ρ0 ws M2).bind fun p M3 => .ok (x :: p.1, p.2) M3
      | .ex e M2 => if e.cls = C then .ok ([], some e) M2 else .bot
      | .bot => .bot) else gloopX C all g tg c te ρ0 ws M1
    | none => .bot) else .bot
/-- how the exception stands to the store -/
def EXr (K : PySem.W.Frag) (z m1 : List Addr) (H1 : Hp) (Mf : Mem) (rx : Option Exn) : XK := fun cls d H' => ∃ x m', rx = some x ∧ Ext m1 H1 m' H' ∧ RM K m' z H' Mf ∧ RX K m' z H' cls d x
/-- the context of a frame that an exception may leave -/
abbrev gxX (X : Cx) (A : Around) (s : Shared) (H : Hp) (ce : Env) (fp : List Addr) (pn : List (Addr × Obj)) (E : XK) : Cx :=
  { gx X A s H ce fp pn with xe := fun e s' => wpAny (model X.prog X.w) A (leaving ce e) (fun _ s'' => CXf X.prog X.w X.stack fp H s E e s'' ∧ ∀ p ∈ pn, s''.heap.get? p.1 = some p.2) (fun _ _ => False) s' }
theorem takes_gxX {X : Cx} {A : Around} {s : Shared} {H : Hp} {ce : Env} {fp : List Addr} {pn : List (Addr × Obj)} {E : XK} (hf : ce.frame = some ce.locals) : Takes (gxX X A s H ce fp pn E) (fun cls d _ H' => E cls d H') := fun u s' x =>
  XE.leaveF (X := gxX X A s H ce fp pn E) (W := fun cls d _ H' => E cls d H') (E := E) rfl hf (fun _ _ _ _ h => h) x
/-- the exception that has left the frame -/
def FX (X : Cx) (z fp : List Addr) (sc : Shared) (m1 : List Addr) (H1 : Hp) (a : Addr) (go : Obj) (Mf : Mem) (rx : Option Exn) : Value → Shared → Prop := fun e s =>
  CXf X.prog X.w X.stack fp H1 sc (EXr X.K z m1 H1 Mf rx) e s ∧ s.heap.get? a = some go
section
variable {X : Cx} {σ : L2.St} {ρ0 : Rho} {scope : Scope} {own : List (Str × Nat)} {fp : List Addr} {sc : Shared} {m1 z : List Addr} {H1 : Hp} {ce : Env} {a : Addr} {go : Obj} {gn : Nat} {o : Tk} {ys : List W} {Mf : Mem} {rx : Option Exn} {C : Value}
  {tgE elt iter : Expr} {ifs : List Expr} {tg : Tg} {tt : DT} {te : DE} {all : List W} {gd : Gd} {J : It} {it : Addr} {tn : Nat → Heap → Prop} {A : Around} {gpos : Pos}
/-- the loop of the frame -/
theorem gen_turnsX (hc : X.calm = true) (T : Turn X.prog X.w X.K tgE J fp it tn) (hJ : ItOk X.K z J all gd m1 H1) (hsl : ∀ i ∈ tg.slots, i ∈ own.map (·.2)) (hco : ce.scope.isCoroutine = false)
    (hgen : ∀ h : Heap, h.get? a = some go → h.IsGen a gn) (hafp : a ∉ fp)
    (hap : ∀ S, o.ad = some S → sc.heap.objs.size ≤ S ∧ S ≠ ce.locals ∧ (∀ x c, ce.cells.lookup x = some c → c ≠ S) ∧ S ≠ a ∧ S ∉ fp ∧ S ∉ frs X.stack)
    (pg : PG (gxX X (A.deeper ce) sc H1 ce fp [(a, go)] (EXr X.K z m1 H1 Mf rx)) tgE (tg.g X.K)) (pt : QTs (gxX X (A.deeper ce) sc H1 ce fp [(a, go)] (EXr X.K z m1 H1 Mf rx)) ifs tt) (pe : QE (gxX X (A.deeper ce) sc H1 ce fp [(a, go)] (EXr X.K z m1 H1 Mf rx)) (EXr X.K z m1 H1 Mf rx) elt te)
    (hs0 : RS X.K m1 z H1 (wipe σ (own.map (·.2))) ρ0) :
    ∀ (ws : List W) (i : Nat) (us : List Value) (yd rest : List W) (vs : List V) (M : Mem) (m : List Addr) (H : Hp) (c : Nat × Nat) (s₀ s : Shared), all.drop i = ws → i ≤ all.length → gloopX C all gd tg tt te ρ0 ws M = .ok (rest, rx) Mf → ys = yd ++ rest → us.length = yd.length →
      Inv (gxX X (A.deeper ce) sc H1 ce fp [(a, go)] (EXr X.K z m1 H1 Mf rx)) (cp o us c) (wipe σ (own.map (·.2))) H s → tn i s.heap → (∀ b ∈ fp, H b = none) → Ext m1 H1 m H → RM X.K m z H M → RWs X.K m z H vs yd → Vals vs us →
      Seg (model X.prog X.w) A (GEndX (fun n s₀ s => rx = none ∧ GP X z fp sc m1 H1 a gn o ys false Mf n s₀ s) (FX X z fp sc m1 H1 a go Mf rx)) (GY X z fp sc m1 H1 a gn o ys false Mf) rest.length s₀ (.compLoop (.GeneratorExp elt [⟨tgE, iter, ifs, 0⟩] scope gpos) 0 (.ref it) .none ce)
        ((model X.prog X.w).den (.compLoop (.GeneratorExp elt [⟨tgE, iter, ifs, 0⟩] scope gpos) 0 (.ref it) .none ce)) [] s := by
  have oS : ∀ {ip : List (Addr × Obj)} {σ' : L2.St} {H' : Hp} {s' : Shared} {us : List Value} {c : Nat × Nat}, Inv (gxX X (A.deeper ce) sc H1 ce fp [(a, go)] (EXr X.K z m1 H1 Mf rx)) (cp o us c ++ ip) σ' H' s' → ∀ S, o.ad = some S → H' S = none := fun {ip σ' H' s' us c} I' S e => by
    exact (I'.pin (S, o.ob us c) (List.mem_append_right _ (List.mem_append_left _ (by rw [cp_some e]; exact List.mem_singleton.mpr rfl)))).2.1
  have stat : ∀ {σ' : L2.St} {H' : Hp} {s' : Shared} {us : List Value} {c : Nat × Nat}, Inv (gxX X (A.deeper ce) sc H1 ce fp [(a, go)] (EXr X.K z m1 H1 Mf rx)) (cp o us c) σ' H' s' → (∀ b ∈ fp, H' b = none) → ∀ b ∈ fp, FpOk (gxX X (A.deeper ce) sc H1 ce fp [(a, go)] (EXr X.K z m1 H1 Mf rx)) (cp o us c) H' b := fun {σ' H' s' us c} I' hn b hb =>
    ⟨hn b hb, (I'.ok.exf b hb).1, I'.ok.exfs b hb, .inl hb, fun x c e => (I'.ok.exf b hb).2 x c e, fun p hp q => by
      rcases List.mem_append.mp hp with hp | hp
      · rw [List.mem_singleton.mp hp] at q
        exact hafp (by rw [show a = b from q]; exact hb)
      · exact (hap p.1 (cp_adr hp)).2.2.2.2.1 (by rw [q]; exact hb)⟩
  have fact : ∀ {ip : List (Addr × Obj)} {σ' : L2.St} {H' : Hp} {s' : Shared} {us us' : List Value} {c : Nat × Nat} {m' : List Addr} {vs' : List V} {ys' : List W}, Inv (gxX X (A.deeper ce) sc H1 ce fp [(a, go)] (EXr X.K z m1 H1 Mf rx)) (cp o us c ++ ip) σ' H' s' → Ext m1 H1 m' H' → RWs X.K m' z H' vs' ys' → Vals vs' us' → GFact X z fp sc m1 H1 a gn o us' ys' m' H' s' :=
    fun {ip σ' H' s' us us' c m' vs' ys'} I' e rv vl => ⟨I'.os, I'.bare, I'.nolimit, hgen _ (I'.pin (a, go) (List.mem_append_left _ (List.mem_singleton.mpr rfl))).1, I'.base, I'.hok, oS I', e, vs', vl, rv⟩
  have ownP : ∀ {ip : List (Addr × Obj)} {σ' : L2.St} {H' : Hp} {s' : Shared} {us : List Value} {c : Nat × Nat}, Inv (gxX X (A.deeper ce) sc H1 ce fp [(a, go)] (EXr X.K z m1 H1 Mf rx)) (cp o us c ++ ip) σ' H' s' → ∃ c, ∀ p ∈ cp o us c, s'.heap.get? p.1 = some p.2 := fun {ip σ' H' s' us c} I' =>
    ⟨c, fun p hp => (I'.pin p (List.mem_append_right _ (List.mem_append_left _ hp))).1⟩
  have hG : (gxX X (A.deeper ce) sc H1 ce fp [(a, go)] (EXr X.K z m1 H1 Mf rx)).prog = X.prog := rfl
  have flight : ∀ {rest : List W} {s₀ : Shared} (u : Value) (s' : Shared), (gxX X (A.deeper ce) sc H1 ce fp [(a, go)] (EXr X.K z m1 H1 Mf rx)).xe u s' →
      Seg (model X.prog X.w) A (GEndX (fun n s₀ s => rx = none ∧ GP X z fp sc m1 H1 a gn o ys false Mf n s₀ s) (FX X z fp sc m1 H1 a go Mf rx)) (GY X z fp sc m1 H1 a gn o ys false Mf) rest.length s₀ (.compLoop (.GeneratorExp elt [⟨tgE, iter, ifs, 0⟩] scope gpos) 0 (.ref it) .none ce) (leaving ce u >>= fun _ => .raise u) [] s' := fun {rest s₀} u s' hu => by
    refine seg_bind ?_
    rw [over_gen]
    exact thnF hu fun _ s'' ⟨h1, h2⟩ => seg_end (.error u) (.inr ⟨u, rfl, h1, h2 (a, go) (List.mem_singleton.mpr rfl)⟩)
  have thnX : ∀ {α : Type} {rest : List W} {s₀ : Shared} {t : Sem α} {Q Q' : α → Shared → Prop} {s : Shared}, wpAny (model X.prog X.w) (A.deeper ce) t Q (gxX X (A.deeper ce) sc H1 ce fp [(a, go)] (EXr X.K z m1 H1 Mf rx)).xe s → (∀ a s, Q a s → Q' a s) → wpAny (model X.prog X.w) (A.deeper ce) t Q' (fun u s' => Seg (model X.prog X.w) A (GEndX (fun n s₀ s => rx = none ∧ GP X z fp sc m1 H1 a gn o ys false Mf n s₀ s) (FX X z fp sc m1 H1 a go Mf rx)) (GY X z fp sc m1 H1 a gn o ys false Mf) rest.length s₀ (.compLoop (.GeneratorExp elt [⟨tgE, iter, ifs, 0⟩] scope gpos) 0 (.ref it) .none ce) (leaving ce u >>= fun _ => .raise u) [] s') s :=
    fun h hQ => wpAny_mono h hQ fun u s' hu => flight u s' hu
  intro ws
  induction ws with
  | nil =>
    intro i us yd rest vs M m H c s₀ s hd hi hg hys hul I st hn e hm rv vl
    unfold gloopX at hg
    split at hg
    · rename_i ok
      cases hg
      have hz : all.length ≤ i := by
        have := congrArg List.length hd
        rw [List.length_drop] at this
        simp at this
        omega
      have stop := (hJ i m z H _ e (fun _ q => .inl q) hm ok).2 hz
      show Seg _ A _ _ _ s₀ _ ((compTurn (.GeneratorExp elt [⟨tgE, iter, ifs, 0⟩] scope gpos) 0 (.ref it) .none ce).onRaise (leaving ce)) [] s
      rw [compTurn_gen, Sem.onRaise_eq_wrap]
      refine seg_bind_wrap (wpAny_standAt ?_)
      refine seg_bind_wrap ?_
      rw [over_gen]
      refine thnF (T.done (gxX X (A.deeper ce) sc H1 ce fp [(a, go)] _) rfl rfl rfl hc i _ s _ H (fun _ _ => False) I (stat I hn) st stop) fun r s1 ⟨hr, I1⟩ => ?_
      subst hr
      rw [List.append_nil] at hys
      subst hys
      have I1' : Inv (gxX X (A.deeper ce) sc H1 ce fp [(a, go)] (EXr X.K z m1 H1 Mf none)) (cp o us c ++ []) (wipe σ (own.map (·.2))) H s1 := by rw [List.append_nil]; exact I1
      exact seg_end (.ok .next) (.inl ⟨rfl, rfl, rfl, rfl, us, m, H, hul, fact I1' e rv vl, ownP I1', hm⟩)
    · cases hg
  | cons w ws ih =>
    intro i us yd rest vs M m H c s₀ s hd hi hg hys hul I st hn e hm rv vl
    obtain ⟨hw, hd2, hlt⟩ := drop_cons hd
    unfold gloopX at hg
    split at hg
    · rename_i ok
      split at hg
      · rename_i ρ1 hdn
        obtain ⟨k, M1, hk, hg⟩ := noEx_bind hg
        obtain ⟨hgo, hy⟩ := (hJ i m z H M e (fun _ q => .inl q) hm ok).1 w hw
        show Seg _ A _ _ _ s₀ _ ((compTurn (.GeneratorExp elt [⟨tgE, iter, ifs, 0⟩] scope gpos) 0 (.ref it) .none ce).onRaise (leaving ce)) [] s
        rw [compTurn_gen, Sem.onRaise_eq_wrap]
        refine seg_bind_wrap (wpAny_standAt ?_)
        refine seg_bind_wrap ?_
        rw [over_gen]
        refine thnF (T.item (gxX X (A.deeper ce) sc H1 ce fp [(a, go)] (EXr X.K z m1 H1 Mf rx)) rfl rfl rfl hc i _ s _ H (fun _ _ => False) I (stat I hn) st hgo) fun r s6 ⟨u, hr, h6⟩ => ?_
        subst hr
        refine seg_bind_wrap ?_
        rw [over_gen]
        refine thnF h6 fun _ s7 ⟨x, H7, I7, r7, y7, st7, n7⟩ => ?_
        obtain ⟨e2, hm2, k2, rw2⟩ := hy x H7 y7
        have I7' := I7.pinned (stat I7 n7) (T.obj _ _ st7)
        obtain ⟨σ1, h1, h2, h3⟩ := Tg.run (hs0.mono (e.trans e2)) rw2 hdn
        refine seg_bind_wrap ?_
        rw [over_gen]
        refine thnX (pg.run _ s7 _ H7 x u (fun σ8 H8 => σ8 = σ1 ∧ H8 = H7) I7' r7 (h1 _ ⟨rfl, rfl⟩)) fun _ s8 ⟨σ8, H8, I8, q8⟩ => ?_
        obtain ⟨rfl, rfl⟩ := q8
        refine seg_bind_wrap ?_
        rw [over_gen]
        refine thnX (pt.run _ s8 σ8 H8 (fun b H9 => b = k ∧ ∃ m9, Ext m H8 m9 H9 ∧ RM X.K m9 z H9 M1) I8 ⟨m, z, ρ1, M, h2, hm2, by rw [hk]; exact fun m' H' e' hm' => ⟨rfl, m', e', hm'⟩⟩) fun b s9 ⟨H9, I9, eb, m9, e9, hm9⟩ => ?_
        subst eb
        -- back to the head of a turn
        have fin : ∀ {us' : List Value} {c' : Nat × Nat} {s' : Shared} {H' : Hp}, Inv (gxX X (A.deeper ce) sc H1 ce fp [(a, go)] (EXr X.K z m1 H1 Mf rx)) (cp o us' c' ++ pinsAt fp s7.heap) σ8 H' s' → Inv (gxX X (A.deeper ce) sc H1 ce fp [(a, go)] (EXr X.K z m1 H1 Mf rx)) (cp o us' c') (wipe σ (own.map (·.2))) H' s' ∧ tn (i + 1) s'.heap ∧ ∀ b ∈ fp, H' b = none := fun {us' c' s' H'} I' => by
          have pin' : ∀ b ∈ fp, ∀ o, s7.heap.get? b = some o → s'.heap.get? b = some o ∧ H' b = none := fun b hb o e =>
            let z := I'.pin (b, o) (List.mem_append_right _ (List.mem_append_right _ (mem_pinsAt hb e)))
            ⟨z.1, z.2.1⟩
          have hw8 : wipe σ8 (own.map (·.2)) = wipe σ (own.map (·.2)) := by rw [h3 _ hsl, wipe_wipe fun _ q => q]
          have hl : (wipe σ (own.map (·.2))).length = σ8.length := by rw [← hw8, wipe_length]
          refine ⟨(I'.unpinned).weak hl (fun j v e => ?_), T.keep _ _ _ st7 fun b hb o e => (pin' b hb o e).1, fun b hb => ?_⟩
          · rw [← hw8] at e
            exact (wipe_some e).1
          · obtain ⟨o, e, _⟩ := T.obj _ _ st7 b hb
            exact (pin' b hb o e).2
        have e19 := (e.trans e2).trans e9
        have rv9 := (RWs.mono e2 rv).mono e9
        cases b with
        | false =>
          simp only [Bool.false_eq_true, if_false] at hg ⊢
          obtain ⟨I10, st10, n10⟩ := fin I9
          exact seg_again rfl (ih (i + 1) us yd rest vs M1 m9 H9 c s₀ s9 hd2 hlt hg hys hul I10 st10 n10 e19 hm9 rv9 vl)
        | true =>
          simp only [if_true] at hg ⊢
          have hyo : ∀ v, yieldOut ce v = yieldValue v := fun v => by simp only [yieldOut, hco, Bool.false_eq_true, if_false]
          simp only [hyo]
          rw [Sem.bind_eq_wrap', Sem.bind_eq_wrap', Sem.wrap_wrap, Sem.wrap_wrap]
          refine seg_wrap ?_
          rw [over_gen]
          cases hte : te ρ1 M1 with
          | bot => rw [hte] at hg; cases hg
          | ex x M2 =>
            rw [hte] at hg
            simp only at hg
            split at hg
            · cases hg
              refine wpAny_mono (pe.run _ s9 σ8 H9 (fun v H' => False) I9 ⟨m9, z, ρ1, M1, h2.mono e9, hm9, by rw [hte]; exact fun m' H' e' hm' cls d r => ⟨x, m', rfl, e19.trans e', hm', r⟩⟩) (fun v s10 hv => ?_) fun u s10 hu => flight u s10 hu
              obtain ⟨_, _, _, _, hv⟩ := hv
              exact hv.elim
            · cases hg
          | ok y M2 =>
          rw [hte] at hg
          simp only at hg
          refine wpAny_mono (pe.run _ s9 σ8 H9 (fun v H' => ∃ m', Ext m9 H9 m' H' ∧ RM X.K m' z H' M2 ∧ RW X.K m' z H' v y) I9 ⟨m9, z, ρ1, M1, h2.mono e9, hm9, by rw [hte]; exact fun m' H' e' hm' v rv => ⟨m', e', hm', rv⟩⟩) (fun v s10 hv => ?_) fun u s10 hu => flight u s10 hu
          obtain ⟨yv, H10, I10, r10, m10, e10, hm10, ry⟩ := hv
          have rv10 := rv9.mono e10
          have e110 := e19.trans e10
          have rvs : RWs X.K m10 z H10 (vs ++ [yv]) (yd ++ [y]) := RWs.snoc rv10 ry
          have vls : Vals (vs ++ [yv]) (us ++ [v]) := vl.append (.cons r10 .nil)
          have apt : ∀ {H' : Hp} {σ' : L2.St} {s' : Shared} {us' : List Value} {c' : Nat × Nat}, Inv (gxX X (A.deeper ce) sc H1 ce fp [(a, go)] (EXr X.K z m1 H1 Mf rx)) (cp o us' c' ++ pinsAt fp s7.heap) σ' H' s' → Apt (gxX X (A.deeper ce) sc H1 ce fp [(a, go)] (EXr X.K z m1 H1 Mf rx)) (pinsAt fp s7.heap) H' o := fun {H' σ' s' us' c'} I' => ⟨fun S eS => by
            obtain ⟨q1, q2, q3, q4, q5, q6⟩ := hap S eS
            refine ⟨q1, q2, q3, fun p hp => ?_, oS I' S eS, q6⟩
            rcases List.mem_append.mp hp with hp | hp
            · rw [List.mem_singleton.mp hp]
              exact fun z => q4 z.symm
            · exact fun z => q5 (by rw [← z]; exact (of_pinsAt hp).1)⟩
          obtain ⟨p, M3, hp, hg⟩ := bindOk hg
          obtain ⟨p1, p2⟩ := p
          cases hg
          have hys2 : ys = (yd ++ [y]) ++ p1 := by rw [hys, List.append_assoc]; rfl
          refine seg_at (seg_yield rfl rfl rfl ⟨us, m10, H10, ?_, ?_, ownP I10, fun hn0 he => ?_, fun _ s' hsl' => ?_⟩)
          · show us.length + p1.length + 1 = _
            rw [hys2, List.length_append, List.length_append, hul, List.length_singleton]
            omega
          · have q : ys.take (us.length + 1) = yd ++ [y] := by
              rw [hys2, hul, List.take_append_of_le_length (by rw [List.length_append]; exact Nat.le_refl _), List.take_of_length_le (by rw [List.length_append]; exact Nat.le_refl _)]
            rw [q]
            exact fact I10 e110 rvs vls
          · exact absurd he Bool.noConfusion
          · obtain ⟨c', I11⟩ := woken I10 (apt I10) hsl'
            obtain ⟨I12, st12, n12⟩ := fin I11
            exact seg_again rfl (ih (i + 1) (us ++ [v]) (yd ++ [y]) p1 (vs ++ [yv]) M2 m10 H10 c' s' s' hd2 hlt hp hys2 (by rw [List.length_append, List.length_append, hul]; rfl) I12 st12 n12 e110 hm10 rvs vls)
      · cases hg
    · cases hg
end
end By
namespace By
open PySem PySem.Spec PyProof.Rows L2
open Sem (wp)
noncomputable def dGxX (C : Value) (P : Addr) (ti : DI) (tg : Tg) (c : DT) (te : DE) (vs : List Nat) : Rho → Mem → R (List W × Option Exn) := fun ρ M =>
  (ti ρ M).bind fun p M1 => open Classical in if O.tbl P ∈ M1 then gloopX C p.1 p.2 tg c te (wipeR ρ vs) p.1 M1 else .bot
theorem gloopX_noex {C : Value} {all : List W} {g : Gd} {tg : Tg} {c : DT} {te : DE} {ρ0 : Rho} {x : Exn} {M' : Mem} : ∀ {ws : List W} {M : Mem}, gloopX C all g tg c te ρ0 ws M ≠ .ex x M'
  | [], M => fun h => by
    unfold gloopX at h
    split at h <;> cases h
  | w :: ws, M => fun h => by
    unfold gloopX at h
    split at h
    · split at h
      · obtain ⟨k, M1, _, h⟩ := noEx_not h
        split at h
        · split at h
          · rename_i y M2 _
            cases q : gloopX C all g tg c te ρ0 ws M2 with
            | ok p M3 => rw [q] at h; cases h
            | ex x M3 => exact gloopX_noex q
            | bot => rw [q] at h; cases h
          · split at h <;> cases h
          · cases h
        · exact gloopX_noex h
      · cases h
    · cases h
/-- a generator that has not begun -/
structure GRdyX (X : Cx) (z : List Addr) (sc : Shared) (m1 : List Addr) (H1 : Hp) (fp : List Addr) (a : Addr) (g : Nat) (code : Code) (ys : List W) (rx : Option Exn) (go : Obj) (Mf : Mem) (s5 : Shared) : Prop where
  lo : sc.heap.objs.size ≤ a
  hi : a < s5.heap.objs.size
  gen : s5.heap.IsGen a g
  gob : ∀ h : Heap, h.get? a = some go → h.IsGen a g
  fresh : s5.gens[g]? = some (.fresh code)
  os : s5.os = sc.os
  bare : AllBare s5.gens
  nl : s5.heap.NoLimit
  keep : ∀ b o, sc.heap.get? b = some o → s5.heap.get? b = some o
  wake : ∀ (A : Around) (o : Tk) (s2 : Shared), A.handled = none → A.frames = some X.stack → A.guards = X.A.guards → A.depth = X.A.depth → A.units ≤ X.A.units + 12 → (∀ S, o.ad = some S → s5.heap.objs.size ≤ S) →
    (∀ b ob, s5.heap.get? b = some ob → s2.heap.get? b = some ob) → (∃ c, ∀ p ∈ cp o [] c, s2.heap.get? p.1 = some p.2) → s2.os = s5.os → AllBare s2.gens →
    Seg (model X.prog X.w) A (GEndX (fun n s₀ s => rx = none ∧ GP X z fp sc m1 H1 a g o ys false Mf n s₀ s) (FX X z fp sc m1 H1 a go Mf rx)) (GY X z fp sc m1 H1 a g o ys false Mf) ys.length s2 code ((model X.prog X.w).den code) [] s2
section
variable {X : Cx} {pins : List (Addr × Obj)} {σ : L2.St} {H : Hp} {s : Shared}
theorem gxX_start {EE : XK} {scope : Scope} {own : List (Str × Nat)} {fp : List Addr} {A : Around} {code : Value} {ce : Env} {pn : List (Addr × Obj)} {s' : Shared} (I : Inv X pins σ H s) (ok : BlkOk X.N X.env.scope scope own) (nc : ∀ y ∈ scope.names, y.2 ≠ .cell) (hN : X.N.Nodup)
    (hce : ce = genEnv scope (cloFrom X.env.cells scope.names []) s.heap.objs.size code builtinsNs X.env) (hfp : ∀ b ∈ fp, FpOk X pins H b ∧ b < s.heap.objs.size) (hd : A.handled = none) (hf : A.frames = some (ce :: X.stack))
    (os : s'.os = s.os) (bare : AllBare s'.gens) (kp : ∀ b o, s.heap.get? b = some o → s'.heap.get? b = some o) (hns : ∃ m, s'.heap.Ns s.heap.objs.size m)
    (hpn : ∀ p ∈ pn, s'.heap.get? p.1 = some p.2 ∧ H p.1 = none ∧ p.1 ≠ s.heap.objs.size ∧ p.1 ∉ frs X.stack ∧ ∀ v, p.2.data ≠ .cell v) : Inv (gxX X A s H ce fp pn EE) [] (wipe σ (own.map (·.2))) H s' := by
  have hfree : ∀ y ∈ scope.names, y.2 = .free → ∃ c, X.env.cells.lookup y.1 = some c := fun y hy e => by
    rcases ok.free y hy e with k | k
    · exact I.ok.has _ (.inl k)
    · exact I.ok.has _ (.inr k)
  have hL : ce.locals = s.heap.objs.size := by rw [hce]; rfl
  have hcl : ce.cells = cloFrom X.env.cells scope.names [] := by rw [hce]; rfl
  have hsc : ce.scope = scope := by rw [hce]; rfl
  have cm : ∀ {y c}, (y, c) ∈ cloFrom X.env.cells scope.names [] → X.env.cells.lookup y = some c ∧ c < s.heap.objs.size := fun {y c} hm => by
    rcases cloFrom_mem hm with hm | ⟨h1, rfl⟩
    · cases hm
    · obtain ⟨c, hc⟩ := hfree _ h1 rfl
      rw [hc]
      obtain ⟨w, z⟩ := I.cell _ _ hc
      exact ⟨rfl, z.lt⟩
  have mem : ∀ {y c}, ce.cells.lookup y = some c → X.env.cells.lookup y = some c ∧ c < s.heap.objs.size := fun {y c} e => by
    rw [hcl] at e
    exact cm (PySem.mem_of_lookup e)
  have look : ∀ {y}, scope.names.lookup y = some .free → ∃ c, ce.cells.lookup y = some c ∧ X.env.cells.lookup y = some c := fun {y} hl => by
    have hy : (y, NameKind.free) ∈ scope.names := PySem.mem_of_lookup hl
    obtain ⟨c', e'⟩ := mem_lookup (cloFrom_has (cells := X.env.cells) (acc := []) hy)
    rw [hcl]
    exact ⟨c', e', (cm (PySem.mem_of_lookup e')).1⟩
  obtain ⟨mm, hmm⟩ := hns
  have okB : (gxX X A s H ce fp pn EE).Ok := by
    refine ⟨I.ok.mod, by show ce.scope.kind = _; rw [hsc]; exact ok.kind, by show ce.globals = _; rw [hce]; exact I.ok.glob, by show ce.builtins = _; rw [hce]; rfl, by show s.heap.objs.size ≤ ce.locals; rw [hL]; exact Nat.le_refl _,
      fun y z c e1 e2 => ?_, fun y hy => ?_, fun y c z e => ?_, fun _ => hd, hf, .inr ⟨rfl, by show ce.frame = some ce.locals; rw [hce]; rfl⟩, fun b hb => ⟨?_, fun y c e z => ?_⟩, I.bs, Nat.le_trans I.ok.bsz I.sz, fun b o e hb => ?_, fun b hb z => ?_, I.stack, I.stkFree⟩
    · exact I.ok.inj y z c (mem e1).1 (mem e2).1
    · show ∃ c, ce.cells.lookup y = some c
      have key : ∀ k, ce.kindOf y = some k → (k = .cell ∨ k = .free) → ∃ c, ce.cells.lookup y = some c := fun k hk hk' => by
        unfold Env.kindOf at hk
        rw [hsc] at hk
        rcases hk' with rfl | rfl
        · exact absurd rfl (nc _ (PySem.mem_of_lookup hk))
        · obtain ⟨c, h1, _⟩ := look hk
          exact ⟨c, h1⟩
      rcases hy with hy | hy
      · exact key _ hy (.inl rfl)
      · exact key _ hy (.inr rfl)
    · cases z
    · show b ≠ ce.locals
      rw [hL]; exact Nat.ne_of_lt (hfp b hb).2
    · exact (hfp b hb).1.2.2.2.2.1 y c (mem e).1 z
    · rcases (hfp b hb).1.2.2.2.1 with z | z
      · exact I.ok.noex b o e z
      · exact absurd (Nat.lt_of_lt_of_le (Heap.lt_size e) (Nat.le_trans I.ok.bsz z)) (Nat.lt_irrefl _)
    · rcases List.mem_cons.mp (I.stkSub b z) with z | z
      · exact (hfp b hb).1.2.1 z
      · exact (hfp b hb).1.2.2.1 z
  refine ⟨okB, os, bare, Un.kept kp, ⟨mm, ?_, fun i y av e1 e2 e3 => ?_⟩, fun y c e => ?_, ?_, fun y c e => ?_, fun p hp => ?_, I.hok.kept kp, by rw [wipe_length]; exact I.len⟩
  · show Heap.Ns _ ce.locals _
    rw [hL]
    exact hmm
  · obtain ⟨e2, hne⟩ := wipe_some e2
    have no : ∀ k, scope.names.lookup y = some k → ¬ (k = .local ∨ k = .cell) := fun k hk hh => by
      rcases ok.own _ (PySem.mem_of_lookup hk) hh with e' | e'
      · obtain ⟨p, hp, hpy⟩ := List.mem_map.mp e'
        have e3 := ok.ix p hp
        have : p.1 = y := hpy
        rw [this] at e3
        exact hne (List.mem_map.mpr ⟨p, hp, nodup_ix hN e3 e1⟩)
      · exact e' (List.mem_of_getElem? e1)
    have hfr : scope.names.lookup y = some .free := by
      have e3 : Vis ce.scope y := e3
      unfold Vis at e3
      rw [hsc] at e3
      rcases e3 with e3 | e3 | e3
      · exact absurd (.inl rfl) (no _ e3)
      · exact absurd (.inr rfl) (no _ e3)
      · exact e3
    obtain ⟨m, hn, hl⟩ := I.loc
    have hvis : Vis X.env.scope y := (ok.free _ (PySem.mem_of_lookup hfr) rfl).elim (fun k => .inr (.inl k)) (fun k => .inr (.inr k))
    obtain ⟨w, r, q⟩ := hl i y av e1 e2 hvis
    refine ⟨w, r, .inr ⟨.inr (by show ce.scope.names.lookup y = _; rw [hsc]; exact hfr), ?_⟩⟩
    obtain ⟨c, h1, h2⟩ := look hfr
    rcases q with ⟨k, _⟩ | ⟨_, c', e', z⟩
    · have k : X.env.scope.names.lookup y = some .local := k
      rcases ok.free _ (PySem.mem_of_lookup hfr) rfl with k' | k' <;> rw [show X.env.scope.names.lookup y = _ from k'] at k <;> cases k
    · rw [h2] at e'; cases e'
      exact ⟨c, h1, z.keeps kp⟩
  · obtain ⟨w, z⟩ := I.cell y c (mem e).1
    exact ⟨w, z.keeps kp⟩
  · show H ce.locals = none
    rw [hL]; exact I.hok.fresh (Nat.le_refl _)
  · exact I.freeC y c (mem e).1
  · rw [List.append_nil] at hp
    obtain ⟨h1, h2, h3, h4, h5⟩ := hpn p hp
    exact ⟨h1, h2, by show p.1 ≠ ce.locals; rw [hL]; exact h3, h4, h5⟩
end
section
variable {X : Cx} {pins : List (Addr × Obj)} {σ : L2.St} {H : Hp} {s : Shared} {E : XK} {tgE elt iter : Expr} {ifs : List Expr} {scope : Scope} {own : List (Str × Nat)} {gpos : Pos} {ti : DI} {tg : Tg} {tt : DT} {te : DE} {C : Value} {fin : List W × Option Exn → Mem → R W} {Q : VK} {Q' : Value → Shared → Prop} {c P : Addr} {lv : Nat}
theorem gen_evalX (hcalm : X.calm = true) (hN : X.N.Nodup) (hgd : X.A.guards = some []) (hr : Room (lv + 1) X.A) (TB : GxR.TabB X.base X.mg c P) (hcode : X.env.code = .ref c) (hi : QI X E tgE iter ti) (ok : BlkOk X.N X.env.scope scope own) (S : GScp scope)
    (hb : ∀ (A : Around) (s : Shared) (H : Hp) (C : Addr) (cl : List (Str × Addr)) (code : Value) (fp : List Addr) (pn : List (Addr × Obj)) (EE : XK), A.guards = some [] → Room lv A →
      PG (gxX X A s H (genEnv scope cl C code builtinsNs X.env) fp pn EE) tgE (tg.g X.K) ∧ QTs (gxX X A s H (genEnv scope cl C code builtinsNs X.env) fp pn EE) ifs tt ∧ QE (gxX X A s H (genEnv scope cl C code builtinsNs X.env) fp pn EE) EE elt te)
    (hsl : ∀ i ∈ tg.slots, i ∈ own.map (·.2)) (hfold : ∀ v, genFold iter X.env v = pure v) (I : Inv X pins σ H s)
    (h : ∃ m z ρ M, RS X.K m z H σ ρ ∧ RM X.K m z H M ∧ Post X.K z E m H (kE X.K z Q) ((dGxX C P ti tg tt te (own.map (·.2)) ρ M).bind fin))
    (hQ : ∀ (z m1 : List Addr) (H1 : Hp) (sc : Shared) (fp : List Addr) (a : Addr) (g : Nat) (code : Code) (ys : List W) (rx : Option Exn) (go : Obj) (Mf : Mem) (s5 : Shared), Inv X pins σ H1 sc → ExOk X pins fp → (∀ b ∈ fp, b < sc.heap.objs.size) → GRdyX X z sc m1 H1 fp a g code ys rx go Mf s5 →
      Post X.K z E m1 H1 (kE X.K z Q) (fin (ys, rx) Mf) → Q' (.ref a) s5) :
    wpAny (model X.prog X.w) X.A (eval (.GeneratorExp elt [⟨tgE, iter, ifs, 0⟩] scope gpos) X.env) Q' X.xe s := by
  obtain ⟨m, z, ρ, M, hs, hm, hp⟩ := h
  have hfree : ∀ y ∈ scope.names, y.2 = .free → ∃ c, X.env.cells.lookup y.1 = some c := fun y hy e => by
    rcases ok.free y hy e with k | k
    · exact I.ok.has _ (.inl k)
    · exact I.ok.has _ (.inr k)
  have hp' : Post X.K z E m H (kE X.K z Q) ((ti ρ M).bind fun p M1 => (open Classical in if O.tbl P ∈ M1 then gloopX C p.1 p.2 tg tt te (wipeR ρ (own.map (·.2))) p.1 M1 else .bot : R (List W × Option Exn)).bind fin) := by
    rw [← R.bind_assoc]
    exact hp
  refine wpAny_GeneratorExp_make S.co (closure_ok hfree) S.cell S.dot ok.kind (by have := hr.dp; omega) ?_ hfold
  refine thn (hi.run pins s σ H (fun J H1 => ∃ (m1 : List Addr) (p : List W × Gd) (M1 : Mem), Ext m H m1 H1 ∧ RM X.K m1 z H1 M1 ∧ ItOk X.K z J p.1 p.2 m1 H1 ∧ Post X.K z E m1 H1 (kE X.K z Q) ((open Classical in if O.tbl P ∈ M1 then gloopX C p.1 p.2 tg tt te (wipeR ρ (own.map (·.2))) p.1 M1 else .bot : R (List W × Option Exn)).bind fin)) I
    ⟨m, z, ρ, M, hs, hm, (Post.unbind hp').imp fun p M1 m1 H1 _ e1 hm1 hp1 hgo J hJ => ⟨m1, p, M1, e1, hm1, hJ, hp1⟩⟩) fun xv s1 hx => thn hx fun itv s2 h2 => ?_
  obtain ⟨it, fp, tn, J, H2, e, I2, T, st2, f2, m1, ⟨all, gd⟩, M1, e1, hm1, hJ, hp1⟩ := h2
  subst e
  have hp1' : Post X.K z E m1 H2 (kE X.K z Q) ((open Classical in if O.tbl P ∈ M1 then gloopX C all gd tg tt te (wipeR ρ (own.map (·.2))) all M1 else .bot : R (List W × Option Exn)).bind fin) := hp1
  split at hp1'
  case isFalse => exact hp1'.elim
  case isTrue htb =>
  cases hgl : gloopX C all gd tg tt te (wipeR ρ (own.map (·.2))) all M1 with
  | bot => rw [hgl] at hp1'; exact hp1'.elim
  | ex x M' => exact absurd hgl gloopX_noex
  | ok p Mf =>
  obtain ⟨ys, rx⟩ := p
  rw [hgl] at hp1'
  have hfin : Post X.K z E m1 H2 (kE X.K z Q) (fin (ys, rx) Mf) := hp1'
  -- the table
  obtain ⟨j, hj, ej⟩ := List.getElem_of_mem htb
  have hMj : M1[j]? = some (.tbl P) := by rw [List.getElem?_eq_getElem hj, ej]
  obtain ⟨P', hmj, eP, ps, hP, ht⟩ := hm1.addr hMj
  subst eP
  have hPs : s2.heap.get? P' = some { cls := .none, data := .fields ps } := I2.hok P' _ hP
  have hPlt : P' < s2.heap.objs.size := Heap.lt_size hPs
  have cd : PySem.W.CodeHd s2.heap c P' := TB.code.keeps fun b u e => I2.bk b u e
  have sz : ∀ b ∈ fp, b < s2.heap.objs.size := fun b hb => by
    obtain ⟨o, e, _⟩ := T.obj _ _ st2 b hb
    exact Heap.lt_size e
  have nP : ∀ b ∈ fp, b ≠ P' := fun b hb q => by
    have := (f2 b hb).1
    rw [q, hP] at this
    cases this
  have cont : ∀ (code : Value) (h3 : Heap) (tk : Nat) (ps' : Array Value), Heap.ExtBut P' s2.heap h3 → s2.heap.objs.size ≤ h3.objs.size → h3.get? P' = some { cls := .none, data := .fields ps' } → (∃ more, ps' = ps ++ more) → TriplesOk ps'.toList →
      wpAny (model X.prog X.w) X.A (builtinsFor X.env.globals X.env.builtins) (fun bi s₄ => ∀ h', h'.Ns s₄.heap.objs.size (fun y => if y = ".0" then some (.ref it) else none) → Heap.SameBut s₄.heap.objs.size (s₄.heap.push { cls := .type "frame", data := .dict #[] }) h' →
          Q' (.ref h'.objs.size) { s₄ with
            gens := s₄.gens.push (.fresh (.compStart (.GeneratorExp elt [⟨tgE, iter, ifs, 0⟩] scope gpos) 0 (.ref it) .none (genEnv scope (cloFrom X.env.cells scope.names []) s₄.heap.objs.size code bi X.env))),
            toks := s₄.toks + 1 + 1 + 1,
            heap := h'.push { cls := .type "generator", data := .fields #[.int s₄.gens.size 0, .str "<genexpr>" (s₄.toks + 1), .str (X.env.qual ++ "<genexpr>") (s₄.toks + 1 + 1)] } }) X.xe { s2 with heap := h3, toks := tk } := by
    intro code h3 tk ps' hx hsz hP3 hmore ht3
    obtain ⟨more, em⟩ := hmore
    subst em
    obtain ⟨bm, ob, b1, b2, b3, b4, b5, b6, b7, b8⟩ := TB.bm
    refine wpAny_builtinsFor (m := X.mg) (by rw [I2.ok.glob]; exact (I2.mod.glob.keeps I2.bk).extBut hx TB.gP) b1 b2 (hx _ _ b4 (I2.bk _ _ b5)) b6 b7 b8 ?_
    intro h4 hns hsb
    -- the state that the frame is made in
    generalize hsc : ({ s2 with heap := h3, toks := tk } : Shared) = sc at hns hsb ⊢
    have hsch : sc.heap = h3 := by rw [← hsc]
    have Jc : Inv X pins σ (upd H2 P' (.tbl (ps ++ more))) sc := by
      have q := GxR.inv_tab (more := more) (h' := h3) (g' := s2.gens) (d' := s2.drawn) (t' := tk) I2 hP (fun b u hb e => hx b u hb e) hP3 I2.bare
      rw [← hsc]
      exact q
    have e2 : Ext m1 H2 m1 (upd H2 P' (.tbl (ps ++ more))) := Ext.write (List.mem_of_getElem? hmj)
    have hm2 : RM X.K m1 z (upd H2 P' (.tbl (ps ++ more))) M1 := by
      have q := hm1.write (o := .tbl (ps ++ more)) (ob := .tbl P') hmj ⟨rfl, _, upd_same, ht3⟩
      have e : M1.set j (.tbl P') = M1 := by
        rw [← ej]
        exact List.set_getElem_self hj
      rw [e] at q
      exact q
    have hfin2 := Post.mono e2 hfin
    have hJ2 : ItOk X.K z J all gd m1 (upd H2 P' (.tbl (ps ++ more))) := fun i m' z' H' M' ex hz hm' hg' => hJ i m' z' H' M' (e2.trans ex) (fun b hb => (hz b hb).imp id fun q => by
      by_cases hbP : b = P'
      · rw [hbP, upd_same] at q; cases q
      · rw [upd_ne hbP] at q; exact q) hm' hg'
    have st3 : tn 0 sc.heap := T.keep _ _ _ st2 fun b hb o e => by rw [hsch]; exact hx b o (nP b hb) e
    have f3 : ∀ b ∈ fp, FpOk X pins (upd H2 P' (.tbl (ps ++ more))) b ∧ b < sc.heap.objs.size := fun b hb => by
      refine ⟨⟨?_, (f2 b hb).2⟩, by rw [hsch]; exact Nat.lt_of_lt_of_le (sz b hb) hsz⟩
      rw [upd_ne (nP b hb)]
      exact (f2 b hb).1
    have hsz4 : h4.objs.size = sc.heap.objs.size + 1 := by rw [hsb.1, Heap.size_push]
    have keep4 : ∀ b o, sc.heap.get? b = some o → h4.get? b = some o := fun b o e => hsb.extBut b o (Nat.ne_of_lt (Heap.lt_size e)) (Heap.get?_push_of_some _ e)
    generalize hgo : ({ cls := .type "generator", data := .fields #[.int sc.gens.size 0, .str "<genexpr>" (sc.toks + 1), .str (X.env.qual ++ "<genexpr>") (sc.toks + 1 + 1)] } : Obj) = go
    have keep5 : ∀ b o, sc.heap.get? b = some o → (h4.push go).get? b = some o := fun b o e => Heap.get?_push_of_some _ (keep4 b o e)
    have hgen : ∀ h : Heap, h.get? h4.objs.size = some go → h.IsGen h4.objs.size sc.gens.size := fun h e => ⟨go, _, _, e, by rw [← hgo], by rw [← hgo], by rw [← hgo]⟩
    have hgo5 : (h4.push go).get? h4.objs.size = some go := Heap.get?_push_size _ (by rw [← hgo]; rfl)
    generalize hce : genEnv scope (cloFrom X.env.cells scope.names []) sc.heap.objs.size code builtinsNs X.env = ce
    refine hQ z m1 _ sc fp h4.objs.size sc.gens.size (.compStart (.GeneratorExp elt [⟨tgE, iter, ifs, 0⟩] scope gpos) 0 (.ref it) .none ce) ys rx go Mf _ Jc (fun b hb => ⟨(f3 b hb).1.2.2.2.1, (f3 b hb).1.2.1, (f3 b hb).1.2.2.2.2.1, (f3 b hb).1.2.2.2.2.2⟩) (fun b hb => (f3 b hb).2) ?_ hfin2
    refine ⟨by omega, by show _ < (h4.push go).objs.size; rw [Heap.size_push]; exact Nat.lt_succ_self _, hgen _ hgo5, hgen, by show (sc.gens.push _)[sc.gens.size]? = _; rw [Array.getElem?_push_size], rfl, AllBare.push Jc.bare rfl, Jc.nolimit.keeps keep5, keep5, ?_⟩
    intro A o s2' hA1 hA2 hA3 hA4 hA5 hoS hk2 hown hos hbare
    have hL : ce.locals = sc.heap.objs.size := by rw [← hce]; rfl
    have rA : Room lv (A.deeper ce) := ⟨hA1, by have := hr.dp; show A.depth + 1 + 3 * lv + 5 < _; omega, by have := hr.un; show A.units + 3 + 16 * lv + 200 < _; omega⟩
    have gA : (A.deeper ce).guards = some [] := by
      show A.guards = _
      rw [hA3, hgd]
    have keepS : ∀ b ob, sc.heap.get? b = some ob → s2'.heap.get? b = some ob := fun b ob e => hk2 b ob (keep5 b ob e)
    have I4 : Inv (gxX X (A.deeper ce) sc (upd H2 P' (.tbl (ps ++ more))) ce fp [(h4.objs.size, go)] (EXr X.K z m1 (upd H2 P' (.tbl (ps ++ more))) Mf rx)) [] (wipe σ (own.map (·.2))) (upd H2 P' (.tbl (ps ++ more))) s2' := by
      refine gxX_start Jc ok S.cell hN hce.symm f3 hA1 (Around.frames_deeper hA2) hos hbare keepS ⟨_, (hns.push go).keeps hk2⟩ fun p hp => ?_
      rw [List.mem_singleton.mp hp]
      refine ⟨hk2 _ _ hgo5, Jc.hok.fresh (by show _ ≤ h4.objs.size; omega), by show h4.objs.size ≠ _; omega, fun hq => ?_, fun v q => ?_⟩
      · obtain ⟨_, ob, ho, _⟩ := Jc.stack.mem hq
        have h1 : h4.objs.size < sc.heap.objs.size := by
          obtain ⟨o2, e⟩ : ∃ o, sc.heap.get? h4.objs.size = some o := ⟨_, ho⟩
          exact Heap.lt_size e
        omega
      · rw [← hgo] at q
        cases q
    have hap : ∀ S, o.ad = some S → sc.heap.objs.size ≤ S ∧ S ≠ ce.locals ∧ (∀ x c, ce.cells.lookup x = some c → c ≠ S) ∧ S ≠ h4.objs.size ∧ S ∉ fp ∧ S ∉ frs X.stack := fun S eS => by
      have h1 : (h4.push go).objs.size ≤ S := hoS S eS
      rw [Heap.size_push, hsz4] at h1
      have h2 : sc.heap.objs.size < S := Nat.lt_of_lt_of_le (Nat.lt_succ_of_lt (Nat.lt_succ_self _)) h1
      have h3 : h4.objs.size < S := by rw [hsz4]; exact h1
      refine ⟨Nat.le_of_lt h2, by rw [hL]; exact Nat.ne_of_gt h2, fun x c e q => ?_, Nat.ne_of_gt h3, fun q => ?_, fun hq => ?_⟩
      · rw [← hce] at e
        rcases cloFrom_mem (PySem.mem_of_lookup (show (cloFrom X.env.cells scope.names []).lookup x = some c from e)) with q1 | ⟨q1, q2⟩
        · cases q1
        · obtain ⟨c', hc'⟩ := hfree _ q1 rfl
          rw [show X.env.cells.lookup x = some c' from hc'] at q2
          have q3 : c = c' := q2
          obtain ⟨w, zc⟩ := Jc.cell x c' hc'
          have q4 := zc.lt
          rw [← q3, q] at q4
          exact absurd (Nat.lt_trans q4 h2) (Nat.lt_irrefl _)
      · exact absurd (Nat.lt_trans (f3 S q).2 h2) (Nat.lt_irrefl _)
      · obtain ⟨_, ob, ho, _⟩ := Jc.stack.mem hq
        exact absurd (Nat.lt_trans (Heap.lt_size ho) h2) (Nat.lt_irrefl _)
    obtain ⟨c0, I5⟩ := cp_fresh (ip := []) (o := o) (us := []) I4 ⟨fun S eS => by
      obtain ⟨q1, q2, q3, q4, q5, q6⟩ := hap S eS
      refine ⟨q1, q2, q3, fun p hp => ?_, Jc.hok.fresh q1, q6⟩
      rw [List.append_nil] at hp
      rw [List.mem_singleton.mp hp]
      exact fun q => q4 q.symm⟩ hown
    rw [List.append_nil] at I5
    have hbb := hb (A.deeper ce) sc (upd H2 P' (.tbl (ps ++ more))) sc.heap.objs.size (cloFrom X.env.cells scope.names []) code fp [(h4.objs.size, go)] (EXr X.K z m1 (upd H2 P' (.tbl (ps ++ more))) Mf rx) gA rA
    rw [hce] at hbb
    obtain ⟨pg, pt, pe⟩ := hbb
    have st5 : tn 0 s2'.heap := T.keep _ _ _ st3 fun b _ ob e => keepS b ob e
    have hs5 : RS X.K m1 z (upd H2 P' (.tbl (ps ++ more))) (wipe σ (own.map (·.2))) (wipeR ρ (own.map (·.2))) := ((hs.mono e1).mono e2).wiped _
    have loop := gen_turnsX (ys := ys) (elt := elt) (iter := iter) (ifs := ifs) (scope := scope) (gpos := gpos) (A := A) (C := C) (o := o) (Mf := Mf) (rx := rx) (gn := sc.gens.size) hcalm T hJ2 hsl (by rw [← hce]; exact S.co) hgen
      (fun hq => absurd (f3 _ hq).2 (by rw [hsz4]; exact Nat.not_lt_of_le (Nat.le_succ _))) hap pg pt pe hs5 all 0 [] [] ys [] M1 m1 (upd H2 P' (.tbl (ps ++ more))) c0 s2' s2' rfl (Nat.zero_le _) hgl rfl rfl I5 st5 (fun b hb => (f3 b hb).1.1) (Ext.refl _ _) hm2 .nil .nil
    -- its start
    have hh' : (A.over (.compStart (.GeneratorExp elt [⟨tgE, iter, ifs, 0⟩] scope gpos) 0 (.ref it) .none ce) []).handled = none := hA1
    show Seg _ A _ _ _ _ _ ((compStart (.GeneratorExp elt [⟨tgE, iter, ifs, 0⟩] scope gpos) 0 (.ref it) .none ce).onRaise (leaving ce)) [] _
    unfold compStart
    rw [Sem.onRaise_eq_wrap]
    show Seg _ A _ _ _ _ _ ((ask >>= _).wrap _ _ _ _) [] _
    refine seg_bind_wrap (wpAny_askSetting ?_)
    split
    · exact seg_again rfl loop
    · first
        | exact seg_bind_wrap (wpAny_rule (seg_bind_wrap (wpAny_standAt (seg_bind_wrap (T.self _ 0 _ _ _ st5 (seg_again rfl loop))))))
        | (refine seg_bind_wrap (wpAny_rule ?_); show Seg _ A _ _ _ _ _ ((standAt iter.pos >>= _).wrap _ _ _ _) [] _; exact seg_bind_wrap (wpAny_standAt (seg_bind_wrap (T.self _ 0 _ _ _ st5 (seg_again rfl loop)))))
  refine ⟨I2.nolimit, ?_⟩
  cases hf : codeAmong gpos ps.toList with
  | none =>
    refine wpAny_genexprCodeX hcode (cd.code hPs ht) (cd.tab hPs) hf fun c' h' tk hx hge hlt hco' _ htab' _ => ?_
    obtain ⟨o1, vs, f1, tf, fl, tg, inF, tx, tt, op, _, _, _, _, _, _, _, _, _, htr, _⟩ := hco'
    exact cont _ h' tk _ hx (Nat.le_trans hge (Nat.le_of_lt hlt)) htab'.2 ⟨_, rfl⟩ htr
  | some cv =>
    refine wpAny_genexprCode_hit hcode (cd.code hPs ht) hf ?_
    exact cont cv s2.heap s2.toks ps (Heap.ExtBut.refl _ _) (Nat.le_refl _) hPs ⟨#[], by simp⟩ ht
end
end By
namespace By
open PySem PySem.Spec PyProof.Rows L2
open Sem (wp)
open AutoSeq1 (wpAny_loadPart')
section
variable {X : Cx} {z fp : List Addr} {sc : Shared} {m1 : List Addr} {H1 : Hp} {a : Addr} {g : Nat} {ys : List W} {Mf : Mem} {rx : Option Exn} {go : Obj}
theorem drainGX {A : Around} {R : Result → Shared → Prop} {S : Addr} {res : Value} (hh : A.handled = none) (hd : A.depth < recursionLimit) (hSa : S ≠ a) (hSc : S ≠ cStatics) (hsz : ys.length ≤ sizeLine) (hgob : ∀ h : Heap, h.get? a = some go → h.IsGen a g) (herr : ∀ e s', FX X z fp sc m1 H1 a go Mf rx e s' → NoStop X.prog X.w e s' ∧ R (.error e) (s'.setGen g .finished))
    (hend : rx = none → ∀ s' us m H c, us.length = ys.length → GFact X z fp sc m1 H1 a g (lsTk S) us ys m H s' → s'.heap.get? S = some (lstObj us.toArray c) → RM X.K m z H Mf → R (.ok (.ret res)) s') :
    ∀ (n : Nat) (s : Shared), s.heap.IsGen a g → s.heap.NoLimit →
      (∃ gs, s.gens[g]? = some gs ∧ gs.Goes (model X.prog X.w) A.in1.in1 (GEndX (fun n s₀ s => rx = none ∧ GP X z fp sc m1 H1 a g (lsTk S) ys false Mf n s₀ s) (FX X z fp sc m1 H1 a go Mf rx)) (GY X z fp sc m1 H1 a g (lsTk S) ys false Mf) n (.send .none) (s.setGen g .running)) →
      codeAny (model X.prog X.w) A (.builtin "list.extend.loop" ⟨[.ref S, .ref a, res], []⟩) R s := by
  have fin : ∀ (n : Nat) (s s₁ : Shared) (h' : Heap), rx = none ∧ GP X z fp sc m1 H1 a g (lsTk S) ys false Mf n s s₁ → (∀ b o, s₁.heap.get? b = some o → h'.get? b = some o) → R (.ok (.ret res)) { s₁.setGen g .finished with heap := h' } := fun n s s₁ h' hp hk => by
    obtain ⟨hrx, _, _, us, m, H, hl, hf, ⟨⟨c, c2⟩, hown⟩, hm⟩ := hp
    have hS1 := hown (S, lstObj us.toArray c) (List.mem_singleton.mpr rfl)
    exact hend hrx _ us m H c hl ⟨hf.os, allBare_setGen hf.bare rfl, hf.nl.keeps hk, hf.gen.keeps hk, hf.un.trans (Un.kept hk), hf.hok.kept hk, hf.free, hf.ext, hf.vals⟩ (hk _ _ hS1) hm
  intro n
  induction n with
  | zero =>
    intro s hg hl ⟨gs, hgs, hgo⟩
    refine codeAny_builtin F.entry_extend_loop ?_
    rw [Around.under_plainId F.plain_extend_loop _]
    show wpAny _ A.in1 (pyNext (.ref a) >>= _) _ _ s
    refine wpAny_bind (wpAny_pyNext_genexpX (A := A.in1) hh hl hd hg hgs hgo (fun v s₁ gs' hbare hv => ?_) (fun s₁ hp h' hk => ?_) (fun e s₁ hf => ⟨hgob _ hf.2, herr e s₁ hf⟩))
    · obtain ⟨us, m', H', hlen, hf, ⟨⟨c, c2⟩, hown⟩, _, hk⟩ := hv
      exact False.elim (hk (fun _ => rfl) _ (sleep_push (hown (S, lstObj us.toArray c) (List.mem_singleton.mpr rfl)) hf.bare))
    · exact wpAny_pure (fin _ _ _ _ hp hk)
  | succ n ih =>
    intro s hg hl ⟨gs, hgs, hgo⟩
    have hgl : g < s.gens.size := (Array.getElem?_eq_some_iff.mp hgs).1
    refine codeAny_builtin F.entry_extend_loop ?_
    rw [Around.under_plainId F.plain_extend_loop _]
    show wpAny _ A.in1 (pyNext (.ref a) >>= _) _ _ s
    refine wpAny_bind (GenW.wpAny_gsz (n := g + 1) hgl (wpAny_pyNext_genexpX (A := A.in1) hh hl hd hg hgs hgo (fun v s₁ gs' hbare hv => ?_) (fun s₁ hp h' hk => ?_) (fun e s₁ hf => ⟨hgob _ hf.2, (herr e s₁ hf).1, fun _ => (herr e s₁ hf).2⟩)))
    · intro hsz1
      obtain ⟨us, m', H', hlen, hf, ⟨⟨c, c2⟩, hown⟩, _, hk⟩ := hv
      have hS1 := hown (S, lstObj us.toArray c) (List.mem_singleton.mpr rfl)
      have hasz' : us.toArray.size < sizeLine := by
        rw [List.size_toArray]
        omega
      show wpAny _ A.in1 (updateSeq S (·.push v) >>= _) _ _ _
      refine wpAny_bind ?_
      refine wpAny_updateSeq hS1 rfl (wpAny_pure ⟨plainId_quiet F.plain_extend_loop _, ?_⟩) (Nat.le_of_lt hasz') (by show (us.toArray.push v).size ≤ sizeLine + 1; rw [Array.size_push]; omega)
      have keep3 : ∀ b o, b ≠ S → s₁.heap.get? b = some o → (s₁.heap.update S (Obj.mapSeq (·.push v))).get? b = some o := fun b o hbS e => (Heap.get?_update_other _ _ (Ne.symm hbS)).trans e
      have hsz1 : g < s₁.gens.size := by
        have q : (s₁.setGen g gs').gens.size = s₁.gens.size := GenW.setGen_size _ _ _
        have hsz' : g + 1 ≤ (s₁.setGen g gs').gens.size := hsz1
        omega
      refine ih { s₁.setGen g gs' with heap := s₁.heap.update S (Obj.mapSeq (·.push v)) } ?_ ?_ ⟨gs', setGen_at hsz1, ?_⟩
      · obtain ⟨o, nm, qn, ho, r⟩ := hf.gen
        exact ⟨o, nm, qn, keep3 a o (Ne.symm hSa) ho, r⟩
      · obtain ⟨mc, hns, hnn⟩ := hf.nl
        exact ⟨mc, hns.at' fun o e => keep3 _ o (Ne.symm hSc) e, hnn⟩
      · exact hk (fun _ => rfl) _ (sleep_push hS1 (allBare_setGen (s := s₁.setGen g gs') (allBare_setGen hf.bare hbare) rfl))
    · intro _
      exact wpAny_pure (fin _ _ _ _ hp hk)
/-- all items of a generator that has not begun, put into a list of its own -/
theorem collectGX {A : Around} {E : Value → Shared → Prop} {Q : List Value → Shared → Prop} {code : Code} {s : Shared} (hR : GRdyX X z sc m1 H1 fp a g code ys rx go Mf s) (hh : A.handled = none) (hf : A.frames = some X.stack) (hgu : A.guards = X.A.guards) (hdp : A.depth = X.A.depth) (hun : A.units ≤ X.A.units + 6) (hd : A.depth < recursionLimit) (hsz : ys.length ≤ sizeLine) (herr : ∀ e s', FX X z fp sc m1 H1 a go Mf rx e s' → NoStop X.prog X.w e s' ∧ E e (s'.setGen g .finished))
    (hQ : rx = none → ∀ s' us m H, us.length = ys.length → GFact X z fp sc m1 H1 a g noTk us ys m H s' → RM X.K m z H Mf → s.heap.objs.size ≤ s'.heap.objs.size → Q us s') : wpAny (model X.prog X.w) A (collect (.ref a)) Q E s := by
  have hSa : s.heap.objs.size ≠ a := Nat.ne_of_gt hR.hi
  have hcl : cStatics < s.heap.objs.size := let ⟨_, hn, _⟩ := hR.nl; hn.lt
  have hSc : s.heap.objs.size ≠ cStatics := Nat.ne_of_gt hcl
  unfold collect
  refine wpAny_bind (wpAny_runValue (codeAny_builtin F.entry_proto_collect ?_))
  rw [Around.under_plainId F.plain_proto_collect _]
  show wpAny _ A.in1 (newList [] >>= fun l => again (.builtin "list.__iadd__" ⟨[l, .ref a], []⟩)) _ _ s
  refine wpAny_bind (wpAny_newObj_type ?_)
  refine wpAny_pure ⟨plainId_quiet F.plain_list_iadd _, codeAny_builtin F.entry_list_iadd ?_⟩
  rw [Around.under_plainId F.plain_list_iadd _]
  have up : ∀ (h : Heap) (f : Obj → Obj), (∀ b o, s.heap.get? b = some o → h.get? b = some o) → ∀ b o, s.heap.get? b = some o → (h.update s.heap.objs.size f).get? b = some o := fun h f q b o e =>
    (Heap.get?_update_other _ _ (Ne.symm (Nat.ne_of_lt (Heap.lt_size e)))).trans (q b o e)
  have k1 : ∀ b o, s.heap.get? b = some o → (s.heap.push { cls := .type "list", data := .seq ([] : List Value).toArray }).get? b = some o := fun b o e => Heap.get?_push_of_some _ e
  have gty : ∀ {h : Heap}, (∀ b o, s.heap.get? b = some o → h.get? b = some o) → h.IsGen a g := fun {h} q => hR.gen.keeps q
  show wpAny _ A.in1 (Builtin.List.listExtendWith (.ref s.heap.objs.size) (.ref a) (.ref s.heap.objs.size)) _ _ _
  unfold Builtin.List.listExtendWith
  refine wpAny_bind (wpAny_typeOf (Heap.IsGen.typeIs (s := { s with heap := _ }) (gty k1)) ?_)
  have h1 : Builtin.List.listSameRef (.ref s.heap.objs.size) (.ref a) = false := by simp [Builtin.List.listSameRef, hSa]
  have h2 : (Value.type "generator" == Value.type "list") = false := by decide
  have h3 : (Value.type "generator" == Value.type "tuple") = false := by decide
  simp only [h1, h2, h3, Bool.or_false, Bool.false_eq_true, if_false]
  refine wpAny_bind (wpAny_pyIter_gen (s := { s with heap := _ }) (gty k1) ?_)
  refine wpAny_bind (wpAny_holding ?_)
  unfold Builtin.List.listLengthHint
  refine wpAny_bind (wpAny_specialOf (Heap.IsGen.typeIs (s := { s with heap := _ }) (gty k1)) F.gen_no_len ?_)
  show wpAny _ A.in1 (specialOf (Value.ref a) (Str.ofString "__length_hint__") >>= _) _ _ _
  refine wpAny_bind (wpAny_specialOf (Heap.IsGen.typeIs (s := { s with heap := _ }) (gty k1)) F.gen_no_hint ?_)
  refine wpAny_pure ?_
  show wpAny _ A.in1 (rule "list.extend.makes-room" >>= fun _ => Builtin.List.listTouch (.ref s.heap.objs.size) >>= fun _ =>
    again (.builtin "list.extend.loop" ⟨[.ref s.heap.objs.size, .ref a, .ref s.heap.objs.size], []⟩)) _ _ _
  refine wpAny_bind (wpAny_rule ?_)
  have hS₁ : (s.heap.push { cls := .type "list", data := .seq ([] : List Value).toArray }).get? s.heap.objs.size = some { cls := .type "list", data := .seq ([] : List Value).toArray } := Heap.get?_push_size _ rfl
  refine wpAny_bind ?_
  show wpAny _ A.in1 (updateSeq s.heap.objs.size (·.push .none) >>= fun _ => updateSeq s.heap.objs.size (·.pop)) _ _ _
  refine wpAny_bind (wpAny_updateSeq hS₁ rfl ?_)
  have hS₂ := Heap.get?_update_self (Obj.mapSeq (·.push Value.none)) hS₁ rfl
  refine wpAny_updateSeq hS₂ rfl ?_
  have hS₃ := Heap.get?_update_self (Obj.mapSeq (·.pop)) hS₂ rfl
  have k3 := up _ (Obj.mapSeq (·.pop)) (up _ (Obj.mapSeq (·.push Value.none)) k1)
  refine wpAny_pure ⟨plainId_quiet F.plain_extend_loop _, drainGX (z := z) (fp := fp) (sc := sc) (m1 := m1) (H1 := H1) (Mf := Mf) (A := A) hh hd hSa hSc hsz hR.gob (fun e s' hf => herr e s' hf) (fun hrx s' us m H c q1 q2 q3 q4 => ?_) ys.length _ (gty k3) (hR.nl.keeps k3) ⟨_, hR.fresh, rfl, ?_⟩⟩
  · show wpAny _ A (load s.heap.objs.size >>= _) _ _ s'
    refine wpAny_bind (wpAny_load q3 ?_)
    refine wpAny_pure ?_
    have e : us.toArray.toList = us := by simp
    show Q us.toArray.toList s'
    rw [e]
    refine hQ hrx s' us m H q1 ⟨q2.os, q2.bare, q2.nl, q2.gen, q2.un, q2.hok, (fun S q => by cases q), q2.ext, q2.vals⟩ q4 (Nat.le_of_lt (Heap.lt_size q3))
  · refine hR.wake _ (lsTk s.heap.objs.size) _ hh hf hgu hdp (by show A.units + 1 + 1 ≤ _; omega) (fun S q => by cases q; exact Nat.le_refl _) k3 (own_nil hS₃) rfl (allBare_setGen (s := { s with heap := _ }) hR.bare rfl)
theorem code_tuple_gxX {A : Around} {E : Value → Shared → Prop} {Q₁ : Value → Shared → Prop} {code : Code} {s : Shared} (hR : GRdyX X z sc m1 H1 fp a g code ys rx go Mf s) (hh : A.handled = none) (hf : A.frames = some X.stack) (hgu : A.guards = X.A.guards) (hdp : A.depth = X.A.depth) (hun : A.units ≤ X.A.units + 3) (hd : A.depth < recursionLimit) (hsz : ys.length ≤ sizeLine) (herr : ∀ e s', FX X z fp sc m1 H1 a go Mf rx e s' → NoStop X.prog X.w e s' ∧ E e (s'.setGen g .finished))
    (h : rx = none → ∀ s' us m H, us.length = ys.length → GFact X z fp sc m1 H1 a g noTk us ys m H s' → RM X.K m z H Mf → s.heap.objs.size ≤ s'.heap.objs.size → Q₁ (.ref s'.heap.objs.size) { s' with heap := s'.heap.push { cls := .type "tuple", data := .seq us.toArray } }) :
    codeAny (model X.prog X.w) A (.call (.builtin "tuple.__new__") ⟨[.type "tuple", .ref a], []⟩) (wants Q₁ E) s := by
  refine codeAny_of_tree ?_
  show wpAny _ A.in1 (do checkBuiltinCall "tuple.__new__" ⟨[.type "tuple", .ref a], []⟩; again (.builtin "tuple.__new__" ⟨[.type "tuple", .ref a], []⟩)) _ _ s
  refine wpAny_bind (wpAny_of_eq (F.newCall_tuple_1 _) (wpAny_pure ⟨plainId_quiet F.plain_tuple_new _, codeAny_builtin F.entry_tuple_new ?_⟩))
  rw [Around.under_plainId F.plain_tuple_new _]
  have hsub := sub_tuple_self
  have hinit := init_tuple_lookup
  have hmh := madeHere_tuple
  have hTI : s.TypeIs (.ref a) "generator" := hR.gen.typeIs
  wp_walk using wpAny_typeOf hTI, collectGX (A := A.in1) hR hh hf hgu hdp (by show A.units + 1 ≤ _; omega) hd hsz (fun e s' hf => herr e s' hf)
  intro hrx s' us m H q1 q2 q3 q4
  show wpAny _ _ (Builtin.Tuple.tupleExact us.toArray >>= fun v => ret v) _ _ _
  unfold Builtin.Tuple.tupleExact
  refine wpAny_bind (wpAny_newObj_type ?_ (by show us.toArray.size ≤ sizeLine; rw [List.size_toArray, q1]; exact hsz))
  refine wpAny_pure ?_
  exact h hrx s' us m H q1 q2 q3 q4
theorem call_tuple_gxX {A : Around} {E : Value → Shared → Prop} {Q : Value → Shared → Prop} {code : Code} {s : Shared} (hR : GRdyX X z sc m1 H1 fp a g code ys rx go Mf s) (hh : A.handled = none) (hf : A.frames = some X.stack) (hgu : A.guards = X.A.guards) (hdp : A.depth = X.A.depth) (hun : A.units ≤ X.A.units) (hd : A.depth < recursionLimit) (hsz : ys.length ≤ sizeLine) (herr : ∀ e s', FX X z fp sc m1 H1 a go Mf rx e s' → NoStop X.prog X.w e s' ∧ E e (s'.setGen g .finished))
    (hQ : rx = none → ∀ s' us m H, us.length = ys.length → GFact X z fp sc m1 H1 a g noTk us ys m H s' → RM X.K m z H Mf → s.heap.objs.size ≤ s'.heap.objs.size → Q (.ref s'.heap.objs.size) { s' with heap := s'.heap.push { cls := .type "tuple", data := .seq us.toArray } }) :
    wpAny (model X.prog X.w) A (call (.type "tuple") [.ref a]) Q E s := by
  refine callType_codes (Q₁ := fun obj s₁ => s₁.TypeIs obj "tuple" ∧ Q obj s₁) F.called_tuple (F.typeCall_tuple_1 _) F.entry_object_init
    (code_tuple_gxX hR hh hf hgu hdp (by show A.units + 1 ≤ _; omega) hd hsz herr fun hrx s' us m H q1 q2 q3 q4 => ⟨⟨_, Heap.get?_push_size _ rfl, rfl⟩, hQ hrx s' us m H q1 q2 q3 q4⟩) fun obj s₁ h₁ => ?_
  exact ⟨h₁.1, F.args_object_init_2 obj _, object_init_meets F.called_tuple.init.lookup F.called_tuple.made (by decide) X.prog X.w A.in1 _ s₁ ⟨h₁.1, rfl, h₁.2⟩⟩
end
end By
namespace By
open PySem PySem.Spec PyProof.Rows L2
open Sem (wp)
theorem nostop {K : PySem.W.Frag} {prog : Program} {w : World} {C a : Addr} {oe : Obj} {s : Shared} (hk : K.In s.heap) (he : s.heap.get? a = some oe) (hc : oe.cls = .ref C) (hsub : PySem.W.subIn K (.ref C) (.type "StopIteration") = some false) : NoStop prog w (.ref a) s := fun A E Q g hq => by
  have L0 : PySem.W.Looks (model prog w) s.heap (typeOf (.ref a)) (.ref C) := by
    rw [← hc]
    exact (PySem.W.Looks.ld he).andThen .now
  exact (show PySem.W.Looks (model prog w) s.heap (isInstance (.ref a) (.type "StopIteration")) false from L0.andThen (PySem.W.looks_subIn hk hsub)) A Q E { s with gens := g } (fun _ _ e => e) hq
section
variable {X : Cx} {pins : List (Addr × Obj)} {σ : L2.St} {H1 : Hp} {sc s' : Shared} {fp : List Addr} {E : XK} {W : WX} {u : Value}
theorem CXf.base (I : Inv X pins σ H1 sc) (hex : ExOk X pins fp) (c : CXf X.prog X.w X.stack fp H1 sc E u s') : ∀ b o, X.base.get? b = some o → s'.heap.get? b = some o := fun b o e => by
  obtain ⟨a, B, H', cls, d, rfl, fl, hok, ub, na, os, ag, hE⟩ := c
  obtain ⟨h1, h2⟩ := I.bs b o e
  refine fl.1 b o (ub.keep b o h1 h2 (fun hm => ?_) fun hm => ?_)
  · rcases List.mem_cons.mp (I.stkSub b hm) with z | z
    · have hl := Heap.lt_size e
      rw [z] at hl
      exact absurd hl (Nat.not_lt_of_le (Nat.le_trans I.ok.bsz I.ok.above))
    · exact I.ok.nofr e z
  · rcases (hex b hm).1 with z | z
    · exact I.ok.noex b o e z
    · have hl := Heap.lt_size e
      exact absurd hl (Nat.not_lt_of_le (Nat.le_trans I.ok.bsz z))
theorem XE.of_callF (I : Inv X pins σ H1 sc) (hex : ExOk X pins fp) (hW : ∀ cls d H', E cls d H' → W cls d σ H') (c : CXf X.prog X.w X.stack fp H1 sc E u s') : XE X W u s' := by
  obtain ⟨a, B, H', cls, d, rfl, fl, hok, ub, na, os, ag, hE⟩ := c
  obtain ⟨G, g1, g2⟩ := restrict s'.heap fun b => (B.get? b).isSome || decide (b ∈ frs X.stack)
  have st : B.StaysIn s'.heap := fl.1
  have gB : ∀ b o, B.get? b = some o → G.get? b = some o := fun b o e => by
    rw [g1 b (by simp [e])]
    exact st b o e
  have gF : ∀ b, b ∈ frs X.stack → G.get? b = s'.heap.get? b := fun b hb => g1 b (by simp [hb])
  have og : ∀ b o, G.get? b = some o → s'.heap.get? b = some o ∧ ((B.get? b).isSome = true ∨ b ∈ frs X.stack) := fun b o e => by
    cases q : ((B.get? b).isSome || decide (b ∈ frs X.stack)) with
    | false => rw [g2 b q] at e; cases e
    | true =>
      rw [g1 b q] at e
      exact ⟨e, by simpa [Bool.or_eq_true] using q⟩
  refine ⟨a, B, { sc with heap := G, gens := s'.gens, drawn := s'.drawn, toks := s'.toks }, pins, σ, H', cls, d, rfl, ?_, fun b o e hb => ?_, Heap.UpToSlots.of_keeps fun b o e => (og b o e).1, .inr (.inl fl), na, os, ag, hW _ _ _ hE⟩
  · refine I.call (ch := fp) ⟨fun b o e n hb hx => gB b o (ub.keep b o e n hb hx), fun b o e n hb _ => ?_, fun b o e n hx => ub.free b o e n hx, fun b o e hx => ?_, ub.tups, ub.frzs, ub.tbls⟩ (hok.kept gB) ag hex
    · obtain ⟨sl, q⟩ := ub.slot b o e hb
      exact ⟨sl, by rw [gF b hb]; exact q⟩
    · by_cases hb : b ∈ frs X.stack
      · obtain ⟨sl, q⟩ := ub.slot b o e hb
        exact ⟨_, by rw [gF b hb]; exact q⟩
      · obtain ⟨o', q⟩ := ub.there b o e hb hx
        exact ⟨o', gB b o' q⟩
  · obtain ⟨e', h⟩ := og b o e
    rcases h with h | h
    · obtain ⟨o', q⟩ := Option.isSome_iff_exists.mp h
      have z := st b o' q
      rw [e'] at z; cases z
      exact q
    · exact absurd h hb
end
def finX (C : Value) : List W × Option Exn → Mem → R W := fun p M => open Classical in match p.2 with
  | some x => if x.cls = C ∧ p.1.length ≤ 1000000 then .ex x M else .bot
  | none => finT p.1 M
noncomputable def dTupX (C : Value) (P : Addr) (ti : DI) (tg : Tg) (c : DT) (te : DE) (vs : List Nat) : DE := fun ρ M => (dGxX C P ti tg c te vs ρ M).bind (finX C)
section
variable {X : Cx} {E : XK} {tgE elt iter : Expr} {ifs : List Expr} {scope : Scope} {own : List (Str × Nat)} {vs : List Nat} {gpos pos p : Pos} {ti : DI} {tg : Tg} {tt : DT} {te : DE} {c P Ca : Addr} {lv : Nat}
abbrev GBodyX (X : Cx) (lv : Nat) (scope : Scope) (tgE : Expr) (ifs : List Expr) (elt : Expr) (tg : Tg) (tt : DT) (te : DE) : Prop :=
  ∀ (A : Around) (s : Shared) (H : Hp) (C : Addr) (cl : List (Str × Addr)) (code : Value) (fp : List Addr) (pn : List (Addr × Obj)) (EE : XK), A.guards = some [] → Room lv A →
      PG (gxX X A s H (genEnv scope cl C code builtinsNs X.env) fp pn EE) tgE (tg.g X.K) ∧ QTs (gxX X A s H (genEnv scope cl C code builtinsNs X.env) fp pn EE) ifs tt ∧ QE (gxX X A s H (genEnv scope cl C code builtinsNs X.env) fp pn EE) EE elt te
theorem q_tupX (hc : X.calm = true) (hN : X.N.Nodup) (hgd : X.A.guards = some []) (hr : Room (lv + 1) X.A) (hg : Gl X "tuple") (hm : X.mg "tuple" = none) (TB : GxR.TabB X.base X.mg c P) (hcode : X.env.code = .ref c) (hi : QI X E tgE iter ti) (ok : BlkOk X.N X.env.scope scope own) (S : GScp scope) (hb : GBodyX X lv scope tgE ifs elt tg tt te)
    (hsub : PySem.W.subIn X.K (.ref Ca) (.type "StopIteration") = some false) (tk : Takes X (fun cls d _ H => E cls d H))
    (hvs : own.map (·.2) = vs) (hsl : ∀ i ∈ tg.slots, i ∈ vs) (hfold : ∀ v, genFold iter X.env v = pure v := by intro _; rfl)
    (he : starEach [.GeneratorExp elt [⟨tgE, iter, ifs, 0⟩] scope gpos] X.env = (false, eval (.GeneratorExp elt [⟨tgE, iter, ifs, 0⟩] scope gpos) X.env) :: starEach [] X.env := by rfl) :
    QE X E (.Call (.Name "tuple" p) [.GeneratorExp elt [⟨tgE, iter, ifs, 0⟩] scope gpos] [] pos) (dTupX (.ref Ca) P ti tg tt te vs) := by
  subst hvs
  refine ⟨fun pins s σ H Q I h => ?_⟩
  refine wpAny_Call_Name_kw (ld_blt I hg hm (show bootBuiltins "tuple" = some (.type "tuple") by decide +kernel) ?_ (by decide) (by decide))
  refine PyProof.Rows.callWith_type1 ?_ he rfl
  rw [he]
  show wpAny _ _ (spliced ((false, eval (.GeneratorExp elt [⟨tgE, iter, ifs, 0⟩] scope gpos) X.env) :: backTo pos (starEach [] X.env))) _ _ s
  refine Calls.spliced_cons (gen_evalX (C := .ref Ca) (fin := finX (.ref Ca)) hc hN hgd hr TB hcode hi ok S hb hsl hfold I h fun z m1 H1 sc fp a g code ys rx go Mf s5 I5 hex hfp hR hfin => ?_)
  refine Calls.spliced_nil ?_
  have ylen : ys.length ≤ sizeLine := by
    cases rx with
    | none =>
      have hfin : Post X.K z E m1 H1 (kE X.K z Q) (finT ys Mf) := hfin
      unfold finT at hfin
      split at hfin
      · split at hfin
        · rename_i hl
          exact s1000000 hl
        · exact hfin.elim
      · exact hfin.elim
    | some x =>
      unfold finX at hfin
      simp only at hfin
      split at hfin
      · rename_i hl
        exact s1000000 hl.2
      · exact hfin.elim
  refine call_tuple_gxX hR hr.hd I5.ok.frames rfl rfl (Nat.le_refl _) (by have := hr.dp; omega) ylen (fun e s' hf => ?_) fun hrx s' us m' H' q1 q2 q3 q4 => ?_
  · have hcls : ∀ x, rx = some x → x.cls = .ref Ca := fun x hx => by
      subst hx
      unfold finX at hfin
      simp only at hfin
      split at hfin
      · rename_i hl
        exact hl.1
      · exact hfin.elim
    have kin : X.K.In s'.heap := I5.ok.mod.kin.keeps (CXf.base I5 hex hf.1)
    have hcx := hf.1
    obtain ⟨a', B, H', cls, d, rfl, fl, hok, ub, na, os, ag, x, m', hx, ex', hm', rx'⟩ := hf.1
    refine ⟨?_, tk _ _ (XE.of_callF (E := EXr X.K z m1 H1 Mf rx) I5 hex (fun cls d H' hE => ?_) ⟨a', B, H', cls, d, rfl, fl, hok, ub, na, os, allBare_setGen ag rfl, x, m', hx, ex', hm', rx'⟩)⟩
    · obtain ⟨oe, vs', T, oT, ts, t1, t2, _⟩ := fl.2.2.2
      exact nostop kin t1 (by rw [t2.1, rx'.1, hcls x hx]) hsub
    · obtain ⟨y, m2, hy, e2, r2, r3⟩ := hE
      subst hy
      have hfin' : Post X.K z E m1 H1 (kE X.K z Q) (.ex y Mf) := by
        have := hfin
        unfold finX at this
        simp only at this
        split at this
        · exact this
        · exact this.elim
      exact hfin' m2 H' e2 r2 cls d r3
  · subst hrx
    have hfin : Post X.K z E m1 H1 (kE X.K z Q) (finT ys Mf) := hfin
    unfold finT at hfin
    split at hfin
    · rename_i ds hd
      split at hfin
      · rename_i hl
        have J := taken I5 hex q2
        obtain ⟨vs, hv, rv⟩ := q2.vals
        have hfr : H' s'.heap.objs.size = none := J.hok.fresh (Nat.le_refl _)
        have hlen : vs.length ≤ sizeLine := by
          rw [Paired.length rv]
          exact s1000000 hl
        have J2 : Inv X pins σ (upd H' s'.heap.objs.size (.tup vs)) { s' with heap := s'.heap.push { cls := .type "tuple", data := .seq us.toArray } } := J.laid (t' := s'.toks) (fun b o e => Heap.get?_push_of_some _ e) (Nat.le_refl _) ⟨hlen, us, hv, ⟨_, Heap.get?_push_size _ rfl, rfl, _, rfl⟩⟩
        refine ⟨.ref s'.heap.objs.size, _, J2, rfl, ?_⟩
        have hq : Post X.K z E m' H' (kE X.K z Q) (.ok (.d (.tuple ds)) Mf) := Post.mono q2.ext hfin
        exact post_tup hq q3 (rds_of_rws hd rv) _ hfr
      · exact hfin.elim
    · exact hfin.elim
end
end By
namespace By
open PySem PySem.Spec PyProof.Rows L2
section
variable {γ : Type} {C : Value} {P : Addr} {all : List W} {g : Gd} {ti : DI} {tg : Tg} {te : DE} {vs : List Nat} {ρ ρ0 : Rho} {M : Mem}
theorem gx_ok (inj : γ → W) (f : γ → PyData) (hg : gOk g all M) : ∀ (xs : List γ), (∀ x ∈ xs, ∃ ρ1, tg.den (inj x) ρ0 = some ρ1 ∧ te ρ1 M = .ok (.d (f x)) M) → gloopX C all g tg dYes te ρ0 (xs.map inj) M = .ok (xs.map fun x => W.d (f x), none) M
  | [], _ => by
    rw [List.map_nil]
    unfold gloopX
    rw [if_pos hg]
    rfl
  | x :: xs, h => by
    obtain ⟨ρ1, h1, h2⟩ := h x List.mem_cons_self
    rw [List.map_cons]
    unfold gloopX
    rw [if_pos hg, h1]
    simp only
    rw [x_yes, show noEx (R.ok true M) = R.ok true M from rfl, x_bind, if_pos rfl, h2]
    simp only
    rw [gx_ok inj f hg xs fun y hy => h y (List.mem_cons_of_mem _ hy)]
    rfl
theorem gx_ex (inj : γ → W) (f : γ → PyData) (hg : gOk g all M) {x : γ} {post : List γ} {e : Exn} (he : e.cls = C) (hx : ∃ ρ1, tg.den (inj x) ρ0 = some ρ1 ∧ te ρ1 M = .ex e M) : ∀ (xs : List γ), (∀ x ∈ xs, ∃ ρ1, tg.den (inj x) ρ0 = some ρ1 ∧ te ρ1 M = .ok (.d (f x)) M) → gloopX C all g tg dYes te ρ0 ((xs ++ x :: post).map inj) M = .ok (xs.map fun x => W.d (f x), some e) M
  | [], _ => by
    obtain ⟨ρ1, h1, h2⟩ := hx
    rw [List.nil_append, List.map_cons]
    unfold gloopX
    rw [if_pos hg, h1]
    simp only
    rw [x_yes, show noEx (R.ok true M) = R.ok true M from rfl, x_bind, if_pos rfl, h2]
    simp only
    rw [if_pos he]
    rfl
  | y :: xs, h => by
    obtain ⟨ρ1, h1, h2⟩ := h y List.mem_cons_self
    rw [List.cons_append, List.map_cons]
    unfold gloopX
    rw [if_pos hg, h1]
    simp only
    rw [x_yes, show noEx (R.ok true M) = R.ok true M from rfl, x_bind, if_pos rfl, h2]
    simp only
    rw [gx_ex inj f hg he hx xs fun y hy => h y (List.mem_cons_of_mem _ hy)]
    rfl
theorem tupX_ok (inj : γ → W) (f : γ → PyData) (xs : List γ) (hti : ti ρ M = .ok (xs.map inj, g) M) (hP : O.tbl P ∈ M) (hg : gOk g (xs.map inj) M) (hl : xs.length ≤ 1000000) (h : ∀ x ∈ xs, ∃ ρ1, tg.den (inj x) (wipeR ρ vs) = some ρ1 ∧ te ρ1 M = .ok (.d (f x)) M) :
    dTupX C P ti tg dYes te vs ρ M = .ok (.d (.tuple (xs.map f))) M := by
  unfold dTupX dGxX
  rw [hti, x_bind]
  simp only
  rw [if_pos hP, gx_ok inj f hg xs h, x_bind]
  show finT _ M = _
  unfold finT
  have e : (xs.map fun x => W.d (f x)) = (xs.map f).map .d := by rw [List.map_map]; rfl
  rw [e, allD_map]
  simp only
  rw [if_pos (by rw [List.length_map, List.length_map]; exact hl)]
theorem tupX_ex (inj : γ → W) (f : γ → PyData) (xs : List γ) {x : γ} {post : List γ} {e : Exn} (he : e.cls = C) (hti : ti ρ M = .ok ((xs ++ x :: post).map inj, g) M) (hP : O.tbl P ∈ M) (hg : gOk g ((xs ++ x :: post).map inj) M) (hl : xs.length ≤ 1000000) (h : ∀ x ∈ xs, ∃ ρ1, tg.den (inj x) (wipeR ρ vs) = some ρ1 ∧ te ρ1 M = .ok (.d (f x)) M)
    (hx : ∃ ρ1, tg.den (inj x) (wipeR ρ vs) = some ρ1 ∧ te ρ1 M = .ex e M) : dTupX C P ti tg dYes te vs ρ M = .ex e M := by
  unfold dTupX dGxX
  rw [hti, x_bind]
  simp only
  rw [if_pos hP, gx_ex inj f hg he hx xs h, x_bind]
  unfold finX
  simp only
  rw [if_pos ⟨he, by rw [List.length_map]; exact hl⟩]
end
end By
namespace By
open PySem PySem.Spec PyProof.Rows L2
def fStrX : FL := fun ws M => match ws with
  | [.d (.int i)] => if i.natAbs.log2 < 1920 then .ok (.d (.str (toString i))) M else .bot
  | [.d (.str s)] => .ok (.d (.str s)) M
  | _ => .bot
section
variable {X : Cx} {E : XK} {pos : Pos}
theorem call_strX : CallR X (.type "str") (fun xs H Q => (∃ i, xs = [.int i] ∧ i.natAbs.log2 < 1920 ∧ Q (.str (toString i)) H) ∨ ∃ a, xs = [.str a] ∧ Q (.str a) H) := by
  intro pins s σ H xs us Q I r h
  rcases h with h | h
  · exact call_str_int pins s σ H xs us Q I r h
  · exact SkE.call_str_str pins s σ H xs us Q I r h
theorem q_strX {a : Expr} {ta : DE} {p : Pos} (hg : Gl X "str") (hm : X.mg "str" = none) (ha : QE X E a ta) (hs : starEach [a] X.env = (false, eval a X.env) :: starEach [] X.env := by rfl) : QE X E (.Call (.Name "str" p) [a] [] pos) (dFL fStrX (dCons ta dNil)) := by
  refine q_callTy call_strX ?_ hg hm (by decide +kernel) (qa_cons ha qa_nil hs) (he := hs)
  intro m z H M xs us Q hm r hp
  unfold fStrX at hp
  split at hp
  · rename_i i
    cases r with
    | cons r1 r2 =>
      cases r2
      cases r1 with
      | d r1 =>
        cases r1
        split at hp
        · rename_i h
          exact .inl ⟨i, rfl, h, Post.now (k := kE X.K z Q) hp hm _ (.d (.str _))⟩
        · exact hp.elim
  · rename_i s
    cases r with
    | cons r1 r2 =>
      cases r2
      cases r1 with
      | d r1 =>
        cases r1
        exact .inr ⟨s, rfl, Post.now (k := kE X.K z Q) hp hm _ (.d (.str _))⟩
  · exact hp.elim
end
end By
namespace Pf
open PySem PySem.Spec PyProof.Rows L2 By
def top (i : Nat) : Stmt := PySem.Challenge.pw_beatscan_k30_nets_as_texts.main.body.getD i (.Pass ⟨0, 0, 0, 0⟩)
abbrev s_net_text : Stmt := top 6
abbrev N_net_text : List Str := ["net", "inputs", "gates", "outputs", "lines", "signals", "words", "word"]
abbrev s_line_of : Stmt := top 7
abbrev N_line_of : List Str := ["words", "word"]
abbrev s_net_by : Stmt := top 8
abbrev N_net_by : List Str := ["text", "lines", "inputs", "gates", "line", "number", "outputs"]
abbrev s_WordsOfLine_init : Stmt := inClass (top 9) 0
abbrev N_WordsOfLine_init : List Str := ["self", "line", "number"]
abbrev s_WordsOfLine_wrong : Stmt := inClass (top 9) 1
abbrev N_WordsOfLine_wrong : List Str := ["self", "at", "column", "word"]
abbrev s_WordsOfLine_read_inputs : Stmt := inClass (top 9) 2
abbrev N_WordsOfLine_read_inputs : List Str := ["self", "number"]
abbrev s_WordsOfLine_read_gate : Stmt := inClass (top 9) 3
abbrev N_WordsOfLine_read_gate : List Str := ["self", "words", "signals"]
abbrev s_WordsOfLine_gate_words : Stmt := inClass (top 9) 4
abbrev N_WordsOfLine_gate_words : List Str := ["self", "signs", "many", "sign"]
abbrev s_WordsOfLine_numbers_from : Stmt := inClass (top 9) 5
abbrev N_WordsOfLine_numbers_from : List Str := ["self", "first", "at"]
abbrev s_WordsOfLine_number_at : Stmt := inClass (top 9) 6
abbrev N_WordsOfLine_number_at : List Str := ["self", "at"]
abbrev s_is_figures : Stmt := top 10
abbrev N_is_figures : List Str := ["word", "sign"]
abbrev s__law_cell_at : Stmt := top 12
abbrev N__law_cell_at : List Str := ["script", "k"]
abbrev s__law_draw : Stmt := top 13
abbrev N__law_draw : List Str := ["cell", "k", "bound", "primes"]
abbrev s__law_number : Stmt := top 14
abbrev N__law_number : List Str := ["cell", "k", "bound", "power", "lap", "remains", "small"]
abbrev s__law_next : Stmt := top 15
abbrev N__law_next : List Str := ["draw", "bound", "at", "cell"]
abbrev s__law_place : Stmt := top 16
abbrev N__law_place : List Str := ["text", "e"]
abbrev s_law : Stmt := top 17
abbrev N_law : List Str := ["script", "draw", "inputs", "gates", "lines", "at", "outputs", "text", "net", "head", "wrong", "bad", "place", "size", "signals", "words", "turn", "signal", "word"]
abbrev e_BadText : Stmt := inClass (top 2) 0
theorem xs_BadText : InitSc ["self", "line", "column"] (defScope e_BadText) := ⟨rfl, rfl, rfl, by decide +kernel, by decide +kernel, by decide +kernel, by decide +kernel, rfl, rfl⟩
abbrev T_FIGURES : PyData := (.str "0123456789")
abbrev T_MOST_FIGURES : PyData := (.int 6)
noncomputable def den_net_text (cl pt : Nat → Addr) (C : Nat → FD) : DS :=
    dSeq (dSetTg (.tup [1, 2, 3]) (dVar 0))
    (dSeq (dSet 4 (dLstM (dCons (dFL (C 1) (dCons (dTup (dCons (dC (.str "inputs")) (dCons (dVar 1) (dNil)))) (dNil))) (dNil))))
    (dSeq (dFor (dSeqI (dVar 2)) (.tup [5, 6]) (dExpr (dBM fAppend (dVar 4) (dCons (dFL (C 1) (dCons (dTup (dCons (dC (.str "gate")) (dCons (dTx fJoin (dC (.str "")) (dLc (dSeqI (dVar 6)) (.name 7) (dYes) (dFL fStrX (dCons (dVar 7) dNil)) [7])) (dStar (dVar 5) (dNil))))) (dNil))) dNil))))
    (dSeq (dExpr (dBM fAppend (dVar 4) (dCons (dFL (C 1) (dCons (dTup (dCons (dC (.str "outputs")) (dStar (dVar 3) (dNil)))) (dNil))) dNil)))
    (dRet (dTx fJoin (dC (.str "\n")) (dVar 4))))))
noncomputable def den_line_of (cl pt : Nat → Addr) (C : Nat → FD) : DS :=
    dRet (dTx fJoin (dC (.str " ")) (dLc (dSeqI (dVar 0)) (.name 1) (dYes) (dFL fStrX (dCons (dVar 1) dNil)) [1]))
noncomputable def den_net_by (cl pt : Nat → Addr) (C : Nat → FD) : DS :=
    dSeq (dIfS (dNot (dB (dUn fIsStr (dVar 0)))) (dRaise2 okNN (cl 1) "line" "column" (dC (.int 0)) (dC (.int 0))) (dSkip))
    (dSeq (dSet 1 (dLcM (dEnumS (dTx fSplit (dVar 0) (dC (.str "\n"))) (dC (.int 1))) (.tup [5, 4]) (dYes) (dMake (cl 0) (C 3) (dCons (dVar 4) (dCons (dVar 5) (dNil)))) [5, 4]))
    (dSeq (dSet 2 (dMeth (cl 0) "read_inputs" (C 5) (dBin fIx (dVar 1) (dC (.int 0))) dNil))
    (dSeq (dSet 3 (dLstM (dNil)))
    (dSeq (dFor (dSeqI (dSlM (dVar 1) (dPart (dC (.int 1))) (dNoPart))) (.name 4) (dIfS (dB (dBin (fEq true) (dBin fIx (dFld (cl 0) "words" (dVar 4)) (dC (.int 0))) (dC (.str "outputs")))) (dExpr (dBM fAppend (dVar 3) (dCons (dMeth (cl 0) "read_gate" (C 6) (dVar 4) dNil) dNil))) (dSeq (dSet 6 (dMeth (cl 0) "numbers_from" (C 8) (dVar 4) (dCons (dC (.int 1)) (dNil))))
    (dSeq (dIfS (dB (dBin fLt (dFld (cl 0) "number" (dVar 4)) (dFL fLen (dCons (dVar 1) dNil)))) (dRaise2 okNN (cl 1) "line" "column" (dBin fAdd (dFld (cl 0) "number" (dVar 4)) (dC (.int 1))) (dC (.int 1))) (dSkip))
    (dRet (dTup (dCons (dVar 2) (dCons (dFL fTuple (dCons (dVar 3) dNil)) (dCons (dVar 6) (dNil))))))))))
    (dRaise2 okNN (cl 1) "line" "column" (dBin fAdd (dFL fLen (dCons (dVar 1) dNil)) (dC (.int 1))) (dC (.int 1)))))))
noncomputable def den_WordsOfLine_init (cl pt : Nat → Addr) (C : Nat → FD) : DS :=
    dSeq (dSetF (cl 0) "words" (dTx fSplit (dVar 1) (dC (.str " "))) (dVar 0))
    (dSeq (dSetF (cl 0) "line" (dVar 1) (dVar 0))
    (dSetF (cl 0) "number" (dVar 2) (dVar 0)))
noncomputable def den_WordsOfLine_wrong (cl pt : Nat → Addr) (C : Nat → FD) : DS :=
    dSeq (dSet 2 (dBin fAdd (dC (.int 1)) (dSumG (pt 0) (dSeqI (dSl (dFld (cl 0) "words" (dVar 0)) (dNoPart) (dPart (dVar 1)))) (.name 3) (dYes) (dBin fAdd (dFL fLen (dCons (dVar 3) dNil)) (dC (.int 1))) [3])))
    (dRaise2 okNN (cl 1) "line" "column" (dFld (cl 0) "number" (dVar 0)) (dFL fMin2 (dCons (dVar 2) (dCons (dBin fAdd (dFL fLen (dCons (dFld (cl 0) "line" (dVar 0)) dNil)) (dC (.int 1))) dNil))))
noncomputable def den_WordsOfLine_read_inputs (cl pt : Nat → Addr) (C : Nat → FD) : DS :=
    dSeq (dIfS (dB (dBin (fEq true) (dBin fIx (dFld (cl 0) "words" (dVar 0)) (dC (.int 0))) (dC (.str "inputs")))) (dExpr (dMeth (cl 0) "wrong" (C 4) (dVar 0) (dCons (dC (.int 0)) (dNil)))) (dSkip))
    (dSeq (dSet 1 (dMeth (cl 0) "number_at" (C 9) (dVar 0) (dCons (dC (.int 1)) (dNil))))
    (dSeq (dIfS (dB (dBin fGt (dFL fLen (dCons (dFld (cl 0) "words" (dVar 0)) dNil)) (dC (.int 2)))) (dExpr (dMeth (cl 0) "wrong" (C 4) (dVar 0) (dCons (dC (.int 2)) (dNil)))) (dSkip))
    (dRet (dVar 1))))
noncomputable def den_WordsOfLine_read_gate (cl pt : Nat → Addr) (C : Nat → FD) : DS :=
    dSeq (dIfS (dB (dBin (fEq true) (dBin fIx (dFld (cl 0) "words" (dVar 0)) (dC (.int 0))) (dC (.str "gate")))) (dExpr (dMeth (cl 0) "wrong" (C 4) (dVar 0) (dCons (dC (.int 0)) (dNil)))) (dSkip))
    (dSeq (dSet 1 (dMeth (cl 0) "gate_words" (C 7) (dVar 0) dNil))
    (dSeq (dSet 2 (dMeth (cl 0) "numbers_from" (C 8) (dVar 0) (dCons (dC (.int 2)) (dNil))))
    (dSeq (dIfS (dB (dBin (fEq true) (dFL fLen (dCons (dVar 1) dNil)) (dBin fShl (dC (.int 1)) (dFL fLen (dCons (dVar 2) dNil))))) (dExpr (dMeth (cl 0) "wrong" (C 4) (dVar 0) (dCons (dC (.int 1)) (dNil)))) (dSkip))
    (dRet (dTup (dCons (dVar 2) (dCons (dVar 1) (dNil))))))))
noncomputable def den_WordsOfLine_gate_words (cl pt : Nat → Addr) (C : Nat → FD) : DS :=
    dSeq (dIfS (dB (dBin fLt (dFL fLen (dCons (dFld (cl 0) "words" (dVar 0)) dNil)) (dC (.int 2)))) (dExpr (dMeth (cl 0) "wrong" (C 4) (dVar 0) (dCons (dC (.int 1)) (dNil)))) (dSkip))
    (dSeq (dSet 1 (dBin fIx (dFld (cl 0) "words" (dVar 0)) (dC (.int 1))))
    (dSeq (dSet 2 (dFL fLen (dCons (dVar 1) dNil)))
    (dSeq (dIfS (dOr (dB (dBin (fEq false) (dVar 2) (dC (.int 0)))) (dOr (dB (dBin (fEq true) (dBin fAnd (dVar 2) (dBin fSub (dVar 2) (dC (.int 1)))) (dC (.int 0)))) (dNot (dB (dAllG (pt 1) (dTxtI (dVar 1)) (.name 3) (dYes) (dBin fInS (dVar 3) (dC (.str "01"))) [3]))))) (dExpr (dMeth (cl 0) "wrong" (C 4) (dVar 0) (dCons (dC (.int 1)) (dNil)))) (dSkip))
    (dRet (dTupG (pt 1) (dTxtI (dVar 1)) (.name 3) (dYes) (dFL fIntS (dCons (dVar 3) dNil)) [3])))))
noncomputable def den_WordsOfLine_numbers_from (cl pt : Nat → Addr) (C : Nat → FD) : DS :=
    dRet (dTupX (.ref (cl 1)) (pt 2) (dRngI (dRg2 (dVar 1) (dFL fLen (dCons (dFld (cl 0) "words" (dVar 0)) dNil)))) (.name 2) (dYes) (dMeth (cl 0) "number_at" (C 9) (dVar 0) (dCons (dVar 2) (dNil))) [2])
noncomputable def den_WordsOfLine_number_at (cl pt : Nat → Addr) (C : Nat → FD) : DS :=
    dSeq (dIfS (dOr (dB (dBin fGe (dVar 1) (dFL fLen (dCons (dFld (cl 0) "words" (dVar 0)) dNil)))) (dNot (dB (dFL (C 10) (dCons (dBin fIx (dFld (cl 0) "words" (dVar 0)) (dVar 1)) (dNil)))))) (dExpr (dMeth (cl 0) "wrong" (C 4) (dVar 0) (dCons (dVar 1) (dNil)))) (dSkip))
    (dRet (dFL fIntS (dCons (dBin fIx (dFld (cl 0) "words" (dVar 0)) (dVar 1)) dNil)))
noncomputable def den_is_figures (cl pt : Nat → Addr) (C : Nat → FD) : DS :=
    dSeq (dIfS (dOr (dNot (dB (dChain fLe fLe (dC (.int 1)) (dFL fLen (dCons (dVar 0) dNil)) (dC T_MOST_FIGURES)))) (dAnd (dB (dBin fGt (dFL fLen (dCons (dVar 0) dNil)) (dC (.int 1)))) (dB (dBin (fEq false) (dBin fIxS (dVar 0) (dC (.int 0))) (dC (.str "0")))))) (dRet (dC (.bool false))) (dSkip))
    (dRet (dAllG (pt 3) (dTxtI (dVar 0)) (.name 1) (dYes) (dBin fInS (dVar 1) (dC T_FIGURES)) [1]))
noncomputable def den__law_cell_at (cl pt : Nat → Addr) (C : Nat → FD) : DS :=
    dSeq (dIfS (dB (dBin fLt (dVar 1) (dFL fLen (dCons (dVar 0) dNil)))) (dRet (dBin fIx (dVar 0) (dVar 1))) (dSkip))
    (dRet (dC (.int 0)))
noncomputable def den__law_draw (cl pt : Nat → Addr) (C : Nat → FD) : DS :=
    dSeq (dSet 3 (dTup (dCons (dC (.int 1000003)) (dCons (dC (.int 1000033)) (dCons (dC (.int 1000037)) (dCons (dC (.int 1000039)) (dCons (dC (.int 1000081)) (dCons (dC (.int 1000099)) (dCons (dC (.int 1000117)) (dCons (dC (.int 1000121)) (dCons (dC (.int 1000133)) (dCons (dC (.int 1000151)) (dCons (dC (.int 1000159)) (dCons (dC (.int 1000171)) (dCons (dC (.int 1000183)) (dCons (dC (.int 1000187)) (dCons (dC (.int 1000193)) (dCons (dC (.int 1000199)) (dNil)))))))))))))))))))
    (dRet (dBin fMod (dBin fMod (dFL fInt (dCons (dBin fAdd (dBin fMul (dVar 0) (dC (.int 48271))) (dBin fMul (dVar 1) (dC (.int 69621)))) dNil)) (dBin fIx (dVar 3) (dBin fMod (dFL fInt (dCons (dVar 1) dNil)) (dC (.int 16))))) (dVar 2)))
noncomputable def den__law_number (cl pt : Nat → Addr) (C : Nat → FD) : DS :=
    dSeq (dSet 3 (dC (.int 1)))
    (dSeq (dFor (dRngI (dRg1 (dBin fMod (dFL fInt (dCons (dVar 1) dNil)) (dC (.int 24))))) (.name 4) (dSet 3 (dBin fMul (dVar 3) (dC (.int 1009)))))
    (dSeq (dSet 5 (dBin fDiv (dBin fSub (dVar 0) (dBin fPow (dC (.int 10)) (dC (.int 18)))) (dVar 3)))
    (dSeq (dIfS (dB (dBin fGt (dVar 5) (dC (.int 0)))) (dRet (dBin fMod (dBin fMod (dFL fInt (dCons (dVar 5) dNil)) (dC (.int 1009))) (dVar 2))) (dSkip))
    (dSeq (dSet 6 (dBin fMod (dFL fInt (dCons (dVar 0) dNil)) (dC (.int 1000003))))
    (dRet (dBin fMod (dFL (C 12) (dCons (dBin fMul (dBin fAdd (dVar 6) (dBin fMul (dC (.int 977)) (dVar 1))) (dBin fAdd (dBin fAdd (dVar 6) (dBin fMul (dC (.int 31)) (dVar 1))) (dC (.int 5)))) (dCons (dBin fAdd (dBin fMod (dFL fInt (dCons (dVar 1) dNil)) (dC (.int 9))) (dC (.int 1))) (dCons (dC (.int 999983)) (dNil))))) (dVar 2)))))))
noncomputable def den__law_next (cl pt : Nat → Addr) (C : Nat → FD) : DS :=
    dSeq (dSetI (dBin fAdd (dBin fIx (dVar 0) (dC (.int 2))) (dC (.int 1))) (dVar 0) (dC (.int 2)))
    (dSeq (dSet 2 (dBin fDiv (dBin fIx (dVar 0) (dC (.int 2))) (dC (.int 12))))
    (dSeq (dSet 3 (dBin fAdd (dFL (C 11) (dCons (dBin fIx (dVar 0) (dC (.int 0))) (dCons (dBin fCat (dBin fIx (dVar 0) (dC (.int 1))) (dVar 2)) (dNil)))) (dBin fMul (dC (.int 31)) (dVar 2))))
    (dRet (dFL (C 13) (dCons (dVar 3) (dCons (dBin fAdd (dBin fMod (dFL fInt (dCons (dBin fIx (dVar 0) (dC (.int 2))) dNil)) (dC (.int 12))) (dC (.int 1))) (dCons (dVar 1) (dNil))))))))
noncomputable def den__law_place (cl pt : Nat → Addr) (C : Nat → FD) : DS :=
    dSeq (dTryE (cl 1) "line" "column" (dFL (C 2) (dCons (dVar 0) (dNil))) (dSkip))
    (dRet (dC .none))
noncomputable def den_law (cl pt : Nat → Addr) (C : Nat → FD) : DS :=
    dSeq (dSet 1 (dLstM (dCons (dSl (dVar 0) (dNoPart) (dPart (dC (.int 63)))) (dCons (dC (.int 0)) (dCons (dC (.int 0)) (dNil))))))
    (dSeq (dPar3 2 3 4 (dCons (dFL (C 14) (dCons (dVar 1) (dCons (dC (.int 9)) (dNil)))) (dCons (dLstM (dNil)) (dCons (dLstM (dNil)) (dNil)))))
    (dSeq (dFor (dRngI (dRg1 (dFL (C 14) (dCons (dVar 1) (dCons (dC (.int 9)) (dNil)))))) (.name 5) (dSeq (dSet 13 (dFL (C 14) (dCons (dVar 1) (dCons (dC (.int 4)) (dNil)))))
    (dSeq (dPar 14 15 (dCons (dFL fTuple (dCons (dLc (dRngI (dRg1 (dVar 13))) (.name 16) (dYes) (dFL (C 14) (dCons (dVar 1) (dCons (dC (.int 999)) (dNil)))) [16]) dNil)) (dCons (dFL fTuple (dCons (dLc (dRngI (dRg1 (dBin fShl (dC (.int 1)) (dVar 13)))) (.name 16) (dYes) (dFL (C 14) (dCons (dVar 1) (dCons (dC (.int 2)) (dNil)))) [16]) dNil)) (dNil))))
    (dSeq (dExpr (dBM fAppend (dVar 3) (dCons (dTup (dCons (dVar 14) (dCons (dVar 15) (dNil)))) dNil)))
    (dExpr (dBM fAppend (dVar 4) (dCons (dBin fCat (dBin fCat (dC (.str "gate ")) (dTx fJoin (dC (.str "")) (dLc (dSeqI (dVar 15)) (.name 18) (dYes) (dFL fStrX (dCons (dVar 18) dNil)) [18]))) (dTx fJoin (dC (.str "")) (dLc (dSeqI (dVar 14)) (.name 17) (dYes) (dBin fCat (dC (.str " ")) (dFL fStrX (dCons (dVar 17) dNil))) [17]))) dNil)))))))
    (dSeq (dSet 6 (dFL fTuple (dCons (dLc (dRngI (dRg1 (dFL (C 14) (dCons (dVar 1) (dCons (dC (.int 4)) (dNil)))))) (.name 16) (dYes) (dFL (C 14) (dCons (dVar 1) (dCons (dC (.int 999)) (dNil)))) [16]) dNil)))
    (dSeq (dSet 7 (dTx fJoin (dC (.str "\n")) (dBin fCat (dBin fCat (dLst (dCons (dBin fCat (dC (.str "inputs ")) (dFL fStrX (dCons (dVar 2) dNil))) (dNil))) (dVar 4)) (dLst (dCons (dBin fCat (dC (.str "outputs")) (dTx fJoin (dC (.str "")) (dLc (dSeqI (dVar 6)) (.name 17) (dYes) (dBin fCat (dC (.str " ")) (dFL fStrX (dCons (dVar 17) dNil))) [17]))) (dNil))))))
    (dSeq (dSet 8 (dTup (dCons (dVar 2) (dCons (dFL fTuple (dCons (dVar 3) dNil)) (dCons (dVar 6) (dNil))))))
    (dSeq (dIfS (dOr (dB (dBin (fEq true) (dFL (C 0) (dCons (dVar 8) (dNil))) (dVar 7))) (dB (dBin (fEq true) (dFL (C 2) (dCons (dVar 7) (dNil))) (dVar 8)))) (dRet (dC (.bool false))) (dSkip))
    (dSeq (dSet 9 (dC (.str "inputs 2\n")))
    (dSeq (dSet 10 (dLst (dCons (dTup (dCons (dC (.str "")) (dCons (dTup (dCons (dC (.int 1)) (dCons (dC (.int 1)) (dNil)))) (dNil)))) (dCons (dTup (dCons (dC (.str "input 2")) (dCons (dTup (dCons (dC (.int 1)) (dCons (dC (.int 1)) (dNil)))) (dNil)))) (dCons (dTup (dCons (dC (.str "inputs")) (dCons (dTup (dCons (dC (.int 1)) (dCons (dC (.int 7)) (dNil)))) (dNil)))) (dCons (dTup (dCons (dC (.str "inputs x")) (dCons (dTup (dCons (dC (.int 1)) (dCons (dC (.int 8)) (dNil)))) (dNil)))) (dCons (dTup (dCons (dC (.str "inputs 01")) (dCons (dTup (dCons (dC (.int 1)) (dCons (dC (.int 8)) (dNil)))) (dNil)))) (dCons (dTup (dCons (dC (.str "inputs 1234567")) (dCons (dTup (dCons (dC (.int 1)) (dCons (dC (.int 8)) (dNil)))) (dNil)))) (dCons (dTup (dCons (dC (.str "inputs 2 3")) (dCons (dTup (dCons (dC (.int 1)) (dCons (dC (.int 10)) (dNil)))) (dNil)))) (dNil))))))))))
    (dSeq (dSet 10 (dBin fCat (dVar 10) (dLst (dCons (dTup (dCons (dBin fCat (dVar 9) (dC (.str "gat"))) (dCons (dTup (dCons (dC (.int 2)) (dCons (dC (.int 1)) (dNil)))) (dNil)))) (dCons (dTup (dCons (dVar 9) (dCons (dTup (dCons (dC (.int 2)) (dCons (dC (.int 1)) (dNil)))) (dNil)))) (dNil))))))
    (dSeq (dSet 10 (dBin fCat (dVar 10) (dLst (dCons (dTup (dCons (dC (.str "inputs 2")) (dCons (dTup (dCons (dC (.int 2)) (dCons (dC (.int 1)) (dNil)))) (dNil)))) (dCons (dTup (dCons (dBin fCat (dVar 9) (dC (.str "gate 01 2\n"))) (dCons (dTup (dCons (dC (.int 3)) (dCons (dC (.int 1)) (dNil)))) (dNil)))) (dCons (dTup (dCons (dBin fCat (dVar 9) (dC (.str "gate 01 2"))) (dCons (dTup (dCons (dC (.int 3)) (dCons (dC (.int 1)) (dNil)))) (dNil)))) (dCons (dTup (dCons (dBin fCat (dVar 9) (dC (.str "gate 012 2"))) (dCons (dTup (dCons (dC (.int 2)) (dCons (dC (.int 6)) (dNil)))) (dNil)))) (dCons (dTup (dCons (dBin fCat (dVar 9) (dC (.str "gate 01"))) (dCons (dTup (dCons (dC (.int 2)) (dCons (dC (.int 6)) (dNil)))) (dNil)))) (dCons (dTup (dCons (dBin fCat (dVar 9) (dC (.str "gate 0110 2"))) (dCons (dTup (dCons (dC (.int 2)) (dCons (dC (.int 6)) (dNil)))) (dNil)))) (dNil))))))))))
    (dSeq (dSet 10 (dBin fCat (dVar 10) (dLst (dCons (dTup (dCons (dBin fCat (dVar 9) (dC (.str "gate 01 x"))) (dCons (dTup (dCons (dC (.int 2)) (dCons (dC (.int 9)) (dNil)))) (dNil)))) (dCons (dTup (dCons (dBin fCat (dVar 9) (dC (.str "gate 0110 2 03"))) (dCons (dTup (dCons (dC (.int 2)) (dCons (dC (.int 13)) (dNil)))) (dNil)))) (dCons (dTup (dCons (dBin fCat (dVar 9) (dC (.str "outputs 2 x"))) (dCons (dTup (dCons (dC (.int 2)) (dCons (dC (.int 11)) (dNil)))) (dNil)))) (dCons (dTup (dCons (dBin fCat (dVar 9) (dC (.str "outputs 2\n"))) (dCons (dTup (dCons (dC (.int 3)) (dCons (dC (.int 1)) (dNil)))) (dNil)))) (dNil))))))))
    (dSeq (dSet 10 (dBin fCat (dVar 10) (dLst (dCons (dTup (dCons (dBin fCat (dVar 9) (dC (.str "outputs\ngate 01 2"))) (dCons (dTup (dCons (dC (.int 3)) (dCons (dC (.int 1)) (dNil)))) (dNil)))) (dCons (dTup (dCons (dC .none) (dCons (dTup (dCons (dC (.int 0)) (dCons (dC (.int 0)) (dNil)))) (dNil)))) (dNil))))))
    (dSeq (dSet 10 (dBin fCat (dVar 10) (dLst (dCons (dTup (dCons (dBin fCat (dVar 9) (dC (.str "outputs  2"))) (dCons (dTup (dCons (dC (.int 2)) (dCons (dC (.int 9)) (dNil)))) (dNil)))) (dCons (dTup (dCons (dC (.str " inputs 2")) (dCons (dTup (dCons (dC (.int 1)) (dCons (dC (.int 1)) (dNil)))) (dNil)))) (dCons (dTup (dCons (dBin fCat (dVar 9) (dC (.str "gate 01  2"))) (dCons (dTup (dCons (dC (.int 2)) (dCons (dC (.int 9)) (dNil)))) (dNil)))) (dCons (dTup (dCons (dBin fCat (dVar 9) (dC (.str "gate"))) (dCons (dTup (dCons (dC (.int 2)) (dCons (dC (.int 5)) (dNil)))) (dNil)))) (dCons (dTup (dCons (dBin fCat (dVar 9) (dC (.str "outputs 2 "))) (dCons (dTup (dCons (dC (.int 2)) (dCons (dC (.int 11)) (dNil)))) (dNil)))) (dCons (dTup (dCons (dC (.int 7)) (dCons (dTup (dCons (dC (.int 0)) (dCons (dC (.int 0)) (dNil)))) (dNil)))) (dNil))))))))))
    (dSeq (dFor (dSeqI (dVar 10)) (.tup [11, 12]) (dIfS (dB (dBin (fEq true) (dFL (C 15) (dCons (dVar 11) (dNil))) (dVar 12))) (dRet (dC (.bool false))) (dSkip)))
    (dRet (dC (.bool true)))))))))))))))))
noncomputable def Fn (cl pt : Nat → Addr) : Nat → Nat → FD
  | 0, _ => fun _ _ => .bot
  | k + 1, f => match f with
    | 0 => defD 1 8 (den_net_text cl pt (Fn cl pt k))
    | 1 => defD 1 2 (den_line_of cl pt (Fn cl pt k))
    | 2 => match k with
      | j + 3 => defD 1 7 (den_net_by cl pt (Fn cl pt (j + 2)))
      | _ => fun _ _ => .bot
    | 3 => defK 3 3 (den_WordsOfLine_init cl pt (Fn cl pt k))
    | 4 => match k with
      | j + 3 => defD 2 4 (den_WordsOfLine_wrong cl pt (Fn cl pt (j + 2)))
      | _ => fun _ _ => .bot
    | 5 => defD 1 2 (den_WordsOfLine_read_inputs cl pt (Fn cl pt k))
    | 6 => defD 1 3 (den_WordsOfLine_read_gate cl pt (Fn cl pt k))
    | 7 => match k with
      | j + 1 => defD 1 4 (den_WordsOfLine_gate_words cl pt (Fn cl pt j))
      | _ => fun _ _ => .bot
    | 8 => match k with
      | j + 1 => defD 2 3 (den_WordsOfLine_numbers_from cl pt (Fn cl pt j))
      | _ => fun _ _ => .bot
    | 9 => defD 2 2 (den_WordsOfLine_number_at cl pt (Fn cl pt k))
    | 10 => match k with
      | j + 1 => defD 1 2 (den_is_figures cl pt (Fn cl pt j))
      | _ => fun _ _ => .bot
    | 11 => defD 2 2 (den__law_cell_at cl pt (Fn cl pt k))
    | 12 => defD 3 4 (den__law_draw cl pt (Fn cl pt k))
    | 13 => defD 3 7 (den__law_number cl pt (Fn cl pt k))
    | 14 => defD 2 4 (den__law_next cl pt (Fn cl pt k))
    | 15 => defD 1 2 (den__law_place cl pt (Fn cl pt k))
    | 16 => defD 1 19 (den_law cl pt (Fn cl pt k))
    | _ => fun _ _ => .bot
theorem fn_net_text {cl pt : Nat → Addr} (k : Nat) : Fn cl pt (k + 1) 0 = defD 1 8 (den_net_text cl pt (Fn cl pt k)) := rfl
theorem fn_line_of {cl pt : Nat → Addr} (k : Nat) : Fn cl pt (k + 1) 1 = defD 1 2 (den_line_of cl pt (Fn cl pt k)) := rfl
theorem fn_net_by {cl pt : Nat → Addr} (k : Nat) : Fn cl pt (k + 4) 2 = defD 1 7 (den_net_by cl pt (Fn cl pt (k + 2))) := rfl
theorem fn_WordsOfLine_init {cl pt : Nat → Addr} (k : Nat) : Fn cl pt (k + 1) 3 = defK 3 3 (den_WordsOfLine_init cl pt (Fn cl pt k)) := rfl
theorem fn_WordsOfLine_wrong {cl pt : Nat → Addr} (k : Nat) : Fn cl pt (k + 4) 4 = defD 2 4 (den_WordsOfLine_wrong cl pt (Fn cl pt (k + 2))) := rfl
theorem fn_WordsOfLine_read_inputs {cl pt : Nat → Addr} (k : Nat) : Fn cl pt (k + 1) 5 = defD 1 2 (den_WordsOfLine_read_inputs cl pt (Fn cl pt k)) := rfl
theorem fn_WordsOfLine_read_gate {cl pt : Nat → Addr} (k : Nat) : Fn cl pt (k + 1) 6 = defD 1 3 (den_WordsOfLine_read_gate cl pt (Fn cl pt k)) := rfl
theorem fn_WordsOfLine_gate_words {cl pt : Nat → Addr} (k : Nat) : Fn cl pt (k + 2) 7 = defD 1 4 (den_WordsOfLine_gate_words cl pt (Fn cl pt k)) := rfl
theorem fn_WordsOfLine_numbers_from {cl pt : Nat → Addr} (k : Nat) : Fn cl pt (k + 2) 8 = defD 2 3 (den_WordsOfLine_numbers_from cl pt (Fn cl pt k)) := rfl
theorem fn_WordsOfLine_number_at {cl pt : Nat → Addr} (k : Nat) : Fn cl pt (k + 1) 9 = defD 2 2 (den_WordsOfLine_number_at cl pt (Fn cl pt k)) := rfl
theorem fn_is_figures {cl pt : Nat → Addr} (k : Nat) : Fn cl pt (k + 2) 10 = defD 1 2 (den_is_figures cl pt (Fn cl pt k)) := rfl
theorem fn__law_cell_at {cl pt : Nat → Addr} (k : Nat) : Fn cl pt (k + 1) 11 = defD 2 2 (den__law_cell_at cl pt (Fn cl pt k)) := rfl
theorem fn__law_draw {cl pt : Nat → Addr} (k : Nat) : Fn cl pt (k + 1) 12 = defD 3 4 (den__law_draw cl pt (Fn cl pt k)) := rfl
theorem fn__law_number {cl pt : Nat → Addr} (k : Nat) : Fn cl pt (k + 1) 13 = defD 3 7 (den__law_number cl pt (Fn cl pt k)) := rfl
theorem fn__law_next {cl pt : Nat → Addr} (k : Nat) : Fn cl pt (k + 1) 14 = defD 2 4 (den__law_next cl pt (Fn cl pt k)) := rfl
theorem fn__law_place {cl pt : Nat → Addr} (k : Nat) : Fn cl pt (k + 1) 15 = defD 1 2 (den__law_place cl pt (Fn cl pt k)) := rfl
theorem fn_law {cl pt : Nat → Addr} (k : Nat) : Fn cl pt (k + 1) 16 = defD 1 19 (den_law cl pt (Fn cl pt k)) := rfl
abbrev lev : Nat := 160
structure Txt (P : Program) (K : PySem.W.Frag) (mg : Str → Option Value) (cl : Nat → Addr) where
  f0 : Addr
  fd0 : FuncData
  F0 : Fun K "net_text" "net_text" s_net_text f0 fd0
  b0 : Binds K fd0 ["net"] []
  m0 : mg "net_text" = some (.ref f0)
  k0 : PySem.W.keepIn K (.ref f0) = true
  f1 : Addr
  fd1 : FuncData
  F1 : Fun K "line_of" "line_of" s_line_of f1 fd1
  b1 : Binds K fd1 ["words"] []
  m1 : mg "line_of" = some (.ref f1)
  k1 : PySem.W.keepIn K (.ref f1) = true
  f2 : Addr
  fd2 : FuncData
  F2 : Fun K "net_by" "net_by" s_net_by f2 fd2
  b2 : Binds K fd2 ["text"] []
  m2 : mg "net_by" = some (.ref f2)
  k2 : PySem.W.keepIn K (.ref f2) = true
  f3 : Addr
  fd3 : FuncData
  F3 : Fun K "__init__" "WordsOfLine.__init__" s_WordsOfLine_init f3 fd3
  b3 : Binds K fd3 ["self", "line", "number"] []
  me0___init__ : Meth K (cl 0) "__init__" f3
  f4 : Addr
  fd4 : FuncData
  F4 : Fun K "wrong" "WordsOfLine.wrong" s_WordsOfLine_wrong f4 fd4
  b4 : Binds K fd4 ["self", "at"] []
  me0_wrong : Meth K (cl 0) "wrong" f4
  f5 : Addr
  fd5 : FuncData
  F5 : Fun K "read_inputs" "WordsOfLine.read_inputs" s_WordsOfLine_read_inputs f5 fd5
  b5 : Binds K fd5 ["self"] []
  me0_read_inputs : Meth K (cl 0) "read_inputs" f5
  f6 : Addr
  fd6 : FuncData
  F6 : Fun K "read_gate" "WordsOfLine.read_gate" s_WordsOfLine_read_gate f6 fd6
  b6 : Binds K fd6 ["self"] []
  me0_read_gate : Meth K (cl 0) "read_gate" f6
  f7 : Addr
  fd7 : FuncData
  F7 : Fun K "gate_words" "WordsOfLine.gate_words" s_WordsOfLine_gate_words f7 fd7
  b7 : Binds K fd7 ["self"] []
  me0_gate_words : Meth K (cl 0) "gate_words" f7
  f8 : Addr
  fd8 : FuncData
  F8 : Fun K "numbers_from" "WordsOfLine.numbers_from" s_WordsOfLine_numbers_from f8 fd8
  b8 : Binds K fd8 ["self", "first"] []
  me0_numbers_from : Meth K (cl 0) "numbers_from" f8
  f9 : Addr
  fd9 : FuncData
  F9 : Fun K "number_at" "WordsOfLine.number_at" s_WordsOfLine_number_at f9 fd9
  b9 : Binds K fd9 ["self", "at"] []
  me0_number_at : Meth K (cl 0) "number_at" f9
  f10 : Addr
  fd10 : FuncData
  F10 : Fun K "is_figures" "is_figures" s_is_figures f10 fd10
  b10 : Binds K fd10 ["word"] []
  m10 : mg "is_figures" = some (.ref f10)
  k10 : PySem.W.keepIn K (.ref f10) = true
  f11 : Addr
  fd11 : FuncData
  F11 : Fun K "_law_cell_at" "_law_cell_at" s__law_cell_at f11 fd11
  b11 : Binds K fd11 ["script", "k"] []
  m11 : mg "_law_cell_at" = some (.ref f11)
  k11 : PySem.W.keepIn K (.ref f11) = true
  f12 : Addr
  fd12 : FuncData
  F12 : Fun K "_law_draw" "_law_draw" s__law_draw f12 fd12
  b12 : Binds K fd12 ["cell", "k", "bound"] []
  m12 : mg "_law_draw" = some (.ref f12)
  k12 : PySem.W.keepIn K (.ref f12) = true
  f13 : Addr
  fd13 : FuncData
  F13 : Fun K "_law_number" "_law_number" s__law_number f13 fd13
  b13 : Binds K fd13 ["cell", "k", "bound"] []
  m13 : mg "_law_number" = some (.ref f13)
  k13 : PySem.W.keepIn K (.ref f13) = true
  f14 : Addr
  fd14 : FuncData
  F14 : Fun K "_law_next" "_law_next" s__law_next f14 fd14
  b14 : Binds K fd14 ["draw", "bound"] []
  m14 : mg "_law_next" = some (.ref f14)
  k14 : PySem.W.keepIn K (.ref f14) = true
  f15 : Addr
  fd15 : FuncData
  F15 : Fun K "_law_place" "_law_place" s__law_place f15 fd15
  b15 : Binds K fd15 ["text"] []
  m15 : mg "_law_place" = some (.ref f15)
  k15 : PySem.W.keepIn K (.ref f15) = true
  f16 : Addr
  fd16 : FuncData
  F16 : Fun K "law" "law" s_law f16 fd16
  b16 : Binds K fd16 ["script"] []
  m16 : mg "law" = some (.ref f16)
  k16 : PySem.W.keepIn K (.ref f16) = true
  ca4 : Addr
  cd4 : fd4.code = .ref ca4
  ca7 : Addr
  cd7 : fd7.code = .ref ca7
  ca8 : Addr
  cd8 : fd8.code = .ref ca8
  ca10 : Addr
  cd10 : fd10.code = .ref ca10
  mg0 : mg "WordsOfLine" = some (.ref (cl 0))
  cls0 : Cls K (cl 0)
  mk0 : Mk K (cl 0) f3
  n0_join : NoAttr K (cl 0) "join"
  n0_line : NoAttr K (cl 0) "line"
  n0_number : NoAttr K (cl 0) "number"
  n0_split : NoAttr K (cl 0) "split"
  n0_words : NoAttr K (cl 0) "words"
  mg1 : mg "BadText" = some (.ref (cl 1))
  ox1 : OxC K (cl 1)
  xI1 : Addr
  xcc1 : Addr
  xca1 : Addr
  xkV1 : Value
  xdc1 : Value
  xpm1 : Value
  xct1 : Value
  xan1 : Option Addr
  xi1 : PySem.W.findIn K (.ref (cl 1)) "__init__" = some (some (.ref xI1))
  xt1 : PySem.W.typeIn K (.ref xI1) = some (.type "function")
  xo1 : OxI P K mg (cl 1) xI1 xcc1 xca1 "self" (PySem.W.ksFn "__init__" "BadText.__init__" (defArgs e_BadText) (defBody e_BadText) (defScope e_BadText) .none xkV1 xdc1 xpm1 xan1 (.ref xca1) xct1 xcc1)
  xc1 : PySem.W.codeIn K (.ref xca1) "BadText.__init__" = true
  xf1 : XfC K (cl 1)
  xe1 : PySem.W.exmOne K (.ref (cl 1)) (.ref (cl 1)) = some true
  xns1 : PySem.W.subIn K (.ref (cl 1)) (.type "StopIteration") = some false
  xn1_line : PySem.W.findIn K (.ref (cl 1)) "line" = some none
  xn1_column : PySem.W.findIn K (.ref (cl 1)) "column" = some none
  v_FIGURES : V
  c_FIGURES : ∃ u, mg "FIGURES" = some u ∧ RelV v_FIGURES u
  d_FIGURES : RD K [] [] H00 v_FIGURES T_FIGURES
  v_MOST_FIGURES : V
  c_MOST_FIGURES : ∃ u, mg "MOST_FIGURES" = some u ∧ RelV v_MOST_FIGURES u
  d_MOST_FIGURES : RD K [] [] H00 v_MOST_FIGURES T_MOST_FIGURES
  b_all : mg "all" = none
  b_enumerate : mg "enumerate" = none
  b_int : mg "int" = none
  b_isinstance : mg "isinstance" = none
  b_len : mg "len" = none
  b_min : mg "min" = none
  b_range : mg "range" = none
  b_str : mg "str" = none
  b_sum : mg "sum" = none
  b_tuple : mg "tuple" = none
section
variable {P : Program} {w : World} {K : PySem.W.Frag} {mg : Str → Option Value} {base : Heap} {cl : Nat → Addr}
structure Tabs (K : PySem.W.Frag) (mg : Str → Option Value) (base : Heap) (T : Txt P K mg cl) (pt : Nat → Addr) : Prop where
  t0 : GxR.TabB base mg T.ca4 (pt 0)
  t1 : GxR.TabB base mg T.ca7 (pt 1)
  t2 : GxR.TabB base mg T.ca8 (pt 2)
  t3 : GxR.TabB base mg T.ca10 (pt 3)
variable {pt : Nat → Addr}
structure AllOk (P : Program) (w : World) (K : PySem.W.Frag) (mg : Str → Option Value) (base : Heap) (T : Txt P K mg cl) (pt : Nat → Addr) (k : Nat) : Prop where
  o0 : FnG P w K mg base k T.f0 T.fd0 ["net"] (spOf K (Fn cl pt k 0))
  o1 : FnG P w K mg base k T.f1 T.fd1 ["words"] (spOf K (Fn cl pt k 1))
  o2 : FnG P w K mg base k T.f2 T.fd2 ["text"] (spOf K (Fn cl pt k 2))
  o3 : FnG P w K mg base k T.f3 T.fd3 ["self", "line", "number"] (spOf K (Fn cl pt k 3))
  o4 : FnG P w K mg base k T.f4 T.fd4 ["self", "at"] (spOf K (Fn cl pt k 4))
  o5 : FnG P w K mg base k T.f5 T.fd5 ["self"] (spOf K (Fn cl pt k 5))
  o6 : FnG P w K mg base k T.f6 T.fd6 ["self"] (spOf K (Fn cl pt k 6))
  o7 : FnG P w K mg base k T.f7 T.fd7 ["self"] (spOf K (Fn cl pt k 7))
  o8 : FnG P w K mg base k T.f8 T.fd8 ["self", "first"] (spOf K (Fn cl pt k 8))
  o9 : FnG P w K mg base k T.f9 T.fd9 ["self", "at"] (spOf K (Fn cl pt k 9))
  o10 : FnG P w K mg base k T.f10 T.fd10 ["word"] (spOf K (Fn cl pt k 10))
  o11 : FnG P w K mg base k T.f11 T.fd11 ["script", "k"] (spOf K (Fn cl pt k 11))
  o12 : FnG P w K mg base k T.f12 T.fd12 ["cell", "k", "bound"] (spOf K (Fn cl pt k 12))
  o13 : FnG P w K mg base k T.f13 T.fd13 ["cell", "k", "bound"] (spOf K (Fn cl pt k 13))
  o14 : FnG P w K mg base k T.f14 T.fd14 ["draw", "bound"] (spOf K (Fn cl pt k 14))
  o15 : FnG P w K mg base k T.f15 T.fd15 ["text"] (spOf K (Fn cl pt k 15))
  o16 : FnG P w K mg base k T.f16 T.fd16 ["script"] (spOf K (Fn cl pt k 16))
theorem sc_net_text : FnScope N_net_text ["net"] (defScope s_net_text) := ⟨rfl, rfl, rfl, by decide +kernel, rfl, by decide +kernel, by decide +kernel⟩
theorem sc_line_of : FnScope N_line_of ["words"] (defScope s_line_of) := ⟨rfl, rfl, rfl, by decide +kernel, rfl, by decide +kernel, by decide +kernel⟩
theorem sc_net_by : FnScope N_net_by ["text"] (defScope s_net_by) := ⟨rfl, rfl, rfl, by decide +kernel, rfl, by decide +kernel, by decide +kernel⟩
theorem sc_WordsOfLine_init : FnScope N_WordsOfLine_init ["self", "line", "number"] (defScope s_WordsOfLine_init) := ⟨rfl, rfl, rfl, by decide +kernel, rfl, by decide +kernel, by decide +kernel⟩
theorem sc_WordsOfLine_wrong : FnScope N_WordsOfLine_wrong ["self", "at"] (defScope s_WordsOfLine_wrong) := ⟨rfl, rfl, rfl, by decide +kernel, rfl, by decide +kernel, by decide +kernel⟩
theorem sc_WordsOfLine_read_inputs : FnScope N_WordsOfLine_read_inputs ["self"] (defScope s_WordsOfLine_read_inputs) := ⟨rfl, rfl, rfl, by decide +kernel, rfl, by decide +kernel, by decide +kernel⟩
theorem sc_WordsOfLine_read_gate : FnScope N_WordsOfLine_read_gate ["self"] (defScope s_WordsOfLine_read_gate) := ⟨rfl, rfl, rfl, by decide +kernel, rfl, by decide +kernel, by decide +kernel⟩
theorem sc_WordsOfLine_gate_words : FnScope N_WordsOfLine_gate_words ["self"] (defScope s_WordsOfLine_gate_words) := ⟨rfl, rfl, rfl, by decide +kernel, rfl, by decide +kernel, by decide +kernel⟩
theorem sc_WordsOfLine_numbers_from : FnScope N_WordsOfLine_numbers_from ["self", "first"] (defScope s_WordsOfLine_numbers_from) := ⟨rfl, rfl, rfl, by decide +kernel, rfl, by decide +kernel, by decide +kernel⟩
theorem sc_WordsOfLine_number_at : FnScope N_WordsOfLine_number_at ["self", "at"] (defScope s_WordsOfLine_number_at) := ⟨rfl, rfl, rfl, by decide +kernel, rfl, by decide +kernel, by decide +kernel⟩
theorem sc_is_figures : FnScope N_is_figures ["word"] (defScope s_is_figures) := ⟨rfl, rfl, rfl, by decide +kernel, rfl, by decide +kernel, by decide +kernel⟩
theorem sc__law_cell_at : FnScope N__law_cell_at ["script", "k"] (defScope s__law_cell_at) := ⟨rfl, rfl, rfl, by decide +kernel, rfl, by decide +kernel, by decide +kernel⟩
theorem sc__law_draw : FnScope N__law_draw ["cell", "k", "bound"] (defScope s__law_draw) := ⟨rfl, rfl, rfl, by decide +kernel, rfl, by decide +kernel, by decide +kernel⟩
theorem sc__law_number : FnScope N__law_number ["cell", "k", "bound"] (defScope s__law_number) := ⟨rfl, rfl, rfl, by decide +kernel, rfl, by decide +kernel, by decide +kernel⟩
theorem sc__law_next : FnScope N__law_next ["draw", "bound"] (defScope s__law_next) := ⟨rfl, rfl, rfl, by decide +kernel, rfl, by decide +kernel, by decide +kernel⟩
theorem sc__law_place : FnScope N__law_place ["text"] (defScope s__law_place) := ⟨rfl, rfl, rfl, by decide +kernel, rfl, by decide +kernel, by decide +kernel⟩
theorem sc_law : FnScope N_law ["script"] (defScope s_law) := ⟨rfl, rfl, rfl, by decide +kernel, rfl, by decide +kernel, by decide +kernel⟩
theorem ok_net_text {T : Txt P K mg cl} {k : Nat} (TB : Tabs K mg base T pt) (A : AllOk P w K mg base T pt k) : FnG P w K mg base (k + 1) T.f0 T.fd0 ["net"] (spOf K (defD 1 8 (den_net_text cl pt (Fn cl pt k)))) := by
  refine def_okG T.F0 sc_net_text rfl fun cdv R outer s H E hgd hr => ?_
  have nd : (N_net_text).Nodup := sc_net_text.nd
  have hu : (R.deeper (envOfC "net_text" (defScope s_net_text) s.heap.objs.size T.f0 cdv)).units + 200 < cLine := by have := hr.un; omega
  have po := passes_of (X := (cxOf (L2.CX P w) P w K mg base N_net_text "net_text" (defScope s_net_text) T.f0 cdv R outer s H E)) rfl
  have hx : Passes (L2.CX P w) (cxOf (L2.CX P w) P w K mg base N_net_text "net_text" (defScope s_net_text) T.f0 cdv R outer s H E) E := passes_call (takes_of rfl rfl rfl rfl) fun _ _ _ _ h => h
  refine qss_cons ?_ ?_
  · exact qs_setTg (tg := .tup [1, 2, 3]) (qv 0) (pg_tup rfl (pgs_cons (pg_name (i := 1) nd rfl (by first | exact Or.inl rfl | exact Or.inr rfl)) (pgs_cons (pg_name (i := 2) nd rfl (by first | exact Or.inl rfl | exact Or.inr rfl)) (pgs_cons (pg_name (i := 3) nd rfl (by first | exact Or.inl rfl | exact Or.inr rfl)) (pgs_nil)))))
  refine qss_cons ?_ ?_
  · exact qs_set (i := 4) nd rfl (by first | exact Or.inl rfl | exact Or.inr rfl) (q_lstM (qa_cons (q_callG A.o1 hgd hr rfl T.m1 T.k1 T.b1 hx (qa_cons (q_tup (qa_cons (q_str) (qa_cons (qv 1) (qa_nil)))) (qa_nil))) (qa_nil)))
  refine qss_cons ?_ ?_
  · refine qs_for (tg := .tup [5, 6]) po rfl ?_ ?_ ?_
    · exact (q_seqI (qv 2))
    · exact (pg_tup rfl (pgs_cons (pg_name (i := 5) nd rfl (by first | exact Or.inl rfl | exact Or.inr rfl)) (pgs_cons (pg_name (i := 6) nd rfl (by first | exact Or.inl rfl | exact Or.inr rfl)) (pgs_nil))))
    · refine qss_one ?_
      exact qs_expr (q_append (qv 4) (q_callG A.o1 hgd hr rfl T.m1 T.k1 T.b1 hx (qa_cons (q_tup (qa_cons (q_str) (qa_cons (q_join (q_str) (q_lc (tg := .name 7) rfl nd (q_seqI (qv 6)) (blkOk_by (own := [("word", 7)]) (N := N_net_text) (sc := defScope s_net_text) (by decide +kernel)) (fun _ _ _ _ _ => pg_name (i := 7) nd rfl (by first | exact Or.inl rfl | exact Or.inr rfl)) (fun _ _ _ _ _ => qts_nil) (fun _ _ _ _ _ => q_strX rfl T.b_str (qv 7)) rfl (by decide))) (qa_star (qv 5) (qa_nil))))) (qa_nil))))
  refine qss_cons ?_ ?_
  · exact qs_expr (q_append (qv 4) (q_callG A.o1 hgd hr rfl T.m1 T.k1 T.b1 hx (qa_cons (q_tup (qa_cons (q_str) (qa_star (qv 3) (qa_nil)))) (qa_nil))))
  refine qss_one ?_
  exact qs_ret (q_join (q_str) (qv 4))
theorem ok_line_of {T : Txt P K mg cl} {k : Nat} (TB : Tabs K mg base T pt) (A : AllOk P w K mg base T pt k) : FnG P w K mg base (k + 1) T.f1 T.fd1 ["words"] (spOf K (defD 1 2 (den_line_of cl pt (Fn cl pt k)))) := by
  refine def_okG T.F1 sc_line_of rfl fun cdv R outer s H E hgd hr => ?_
  have nd : (N_line_of).Nodup := sc_line_of.nd
  have hu : (R.deeper (envOfC "line_of" (defScope s_line_of) s.heap.objs.size T.f1 cdv)).units + 200 < cLine := by have := hr.un; omega
  have po := passes_of (X := (cxOf (L2.CX P w) P w K mg base N_line_of "line_of" (defScope s_line_of) T.f1 cdv R outer s H E)) rfl
  have hx : Passes (L2.CX P w) (cxOf (L2.CX P w) P w K mg base N_line_of "line_of" (defScope s_line_of) T.f1 cdv R outer s H E) E := passes_call (takes_of rfl rfl rfl rfl) fun _ _ _ _ h => h
  refine qss_one ?_
  exact qs_ret (q_join (q_str) (q_lc (tg := .name 1) rfl nd (q_seqI (qv 0)) (blkOk_by (own := [("word", 1)]) (N := N_line_of) (sc := defScope s_line_of) (by decide +kernel)) (fun _ _ _ _ _ => pg_name (i := 1) nd rfl (by first | exact Or.inl rfl | exact Or.inr rfl)) (fun _ _ _ _ _ => qts_nil) (fun _ _ _ _ _ => q_strX rfl T.b_str (qv 1)) rfl (by decide)))
theorem ok_net_by {T : Txt P K mg cl} {k : Nat} (TB : Tabs K mg base T pt) (A : AllOk P w K mg base T pt (k + 2)) : FnG P w K mg base (k + 4) T.f2 T.fd2 ["text"] (spOf K (defD 1 7 (den_net_by cl pt (Fn cl pt (k + 2))))) := by
  refine def_okG T.F2 sc_net_by rfl fun cdv R outer s H E hgd hr1 => ?_
  have hr := hr1.mono (Nat.le_succ (k + 2))
  have nd : (N_net_by).Nodup := sc_net_by.nd
  have hu : (R.deeper (envOfC "net_by" (defScope s_net_by) s.heap.objs.size T.f2 cdv)).units + 200 < cLine := by have := hr.un; omega
  have po := passes_of (X := (cxOf (L2.CX P w) P w K mg base N_net_by "net_by" (defScope s_net_by) T.f2 cdv R outer s H E)) rfl
  have hx : Passes (L2.CX P w) (cxOf (L2.CX P w) P w K mg base N_net_by "net_by" (defScope s_net_by) T.f2 cdv R outer s H E) E := passes_call (takes_of rfl rfl rfl rfl) fun _ _ _ _ h => h
  refine qss_cons ?_ ?_
  · refine qs_if ?_ ?_ ?_
    · exact (qt_not (qt_val (q_isStr rfl T.b_isinstance rfl T.b_str (qv 0))))
    · refine qss_one ?_
      exact qs_raise2N rfl (takes_of rfl rfl rfl rfl) (pmk_ox2N T.ox1 T.xi1 T.xt1 T.xo1 (xs_BadText) rfl (by decide) (by decide) T.xc1 T.xn1_line T.xn1_column (fun _ _ _ _ => rfl) hr rfl T.mg1 (pa_cons (q_int) (pa_cons (q_int) pa_nil)))
    · exact qss_nil
  refine qss_cons ?_ ?_
  · exact qs_setLcM (i := 1) (tg := .tup [5, 4]) rfl nd rfl rfl (sw_true rfl rfl rfl (by decide +kernel)) (q_enumS rfl T.b_enumerate (q_split (qv 0) (q_str)) (q_int)) (blkOk_by (own := [("number", 5), ("line", 4)]) (N := N_net_by) (sc := defScope s_net_by) (by decide +kernel)) (fun _ _ _ _ _ => pg_tup rfl (pgs_cons (pg_name (i := 5) nd rfl (by first | exact Or.inl rfl | exact Or.inr rfl)) (pgs_cons (pg_name (i := 4) nd rfl (by first | exact Or.inl rfl | exact Or.inr rfl)) (pgs_nil)))) (fun _ _ _ _ _ => qts_nil) (fun _ _ _ _ _ => q_make T.mk0 A.o3 hgd hr1 rfl T.mg0 T.b3 passL (qa_cons (qv 4) (qa_cons (qv 5) (qa_nil)))) rfl (by decide)
  refine qss_cons ?_ ?_
  · exact qs_set (i := 2) nd rfl (by first | exact Or.inl rfl | exact Or.inr rfl) (q_meth0 A.o5 T.cls0 T.me0_read_inputs hgd hr T.b5 hx (q_ix (qv 1) (q_int)))
  refine qss_cons ?_ ?_
  · exact qs_set (i := 3) nd rfl (by first | exact Or.inl rfl | exact Or.inr rfl) (q_lstM (qa_nil))
  refine qss_cons ?_ ?_
  · refine qs_for (tg := .name 4) po rfl ?_ ?_ ?_
    · exact (q_seqI (q_slM (qv 1) (qo_some (q_int)) (qo_none)))
    · exact (pg_name (i := 4) nd rfl (by first | exact Or.inl rfl | exact Or.inr rfl))
    · refine qss_one ?_
      refine qs_if ?_ ?_ ?_
      · exact (qt_ne hu (q_ix (q_fld T.cls0 T.n0_words (qv 4)) (q_int)) (q_str))
      · refine qss_one ?_
        exact qs_expr (q_append (qv 3) (q_meth0 A.o6 T.cls0 T.me0_read_gate hgd hr T.b6 hx (qv 4)))
      · refine qss_cons ?_ ?_
        · exact qs_set (i := 6) nd rfl (by first | exact Or.inl rfl | exact Or.inr rfl) (q_meth A.o8 T.cls0 T.me0_numbers_from hgd hr T.b8 hx (qv 4) (qa_cons (q_int) (qa_nil)))
        refine qss_cons ?_ ?_
        · refine qs_if ?_ ?_ ?_
          · exact (qt_lt (q_fld T.cls0 T.n0_number (qv 4)) (q_len rfl T.b_len (qv 1)))
          · refine qss_one ?_
            exact qs_raise2N rfl (takes_of rfl rfl rfl rfl) (pmk_ox2N T.ox1 T.xi1 T.xt1 T.xo1 (xs_BadText) rfl (by decide) (by decide) T.xc1 T.xn1_line T.xn1_column (fun _ _ _ _ => rfl) hr rfl T.mg1 (pa_cons (q_add (q_fld T.cls0 T.n0_number (qv 4)) (q_int)) (pa_cons (q_int) pa_nil)))
          · exact qss_nil
        refine qss_one ?_
        exact qs_ret (q_tup (qa_cons (qv 2) (qa_cons (q_tuple rfl T.b_tuple (qv 3)) (qa_cons (qv 6) (qa_nil)))))
  refine qss_one ?_
  exact qs_raise2N rfl (takes_of rfl rfl rfl rfl) (pmk_ox2N T.ox1 T.xi1 T.xt1 T.xo1 (xs_BadText) rfl (by decide) (by decide) T.xc1 T.xn1_line T.xn1_column (fun _ _ _ _ => rfl) hr rfl T.mg1 (pa_cons (q_add (q_len rfl T.b_len (qv 1)) (q_int)) (pa_cons (q_int) pa_nil)))
theorem ok_WordsOfLine_init {T : Txt P K mg cl} {k : Nat} (TB : Tabs K mg base T pt) (A : AllOk P w K mg base T pt k) : FnG P w K mg base (k + 1) T.f3 T.fd3 ["self", "line", "number"] (spOf K (defK 3 3 (den_WordsOfLine_init cl pt (Fn cl pt k)))) := by
  refine def_okGK T.F3 sc_WordsOfLine_init rfl fun cdv R outer s H E hgd hr => ?_
  have nd : (N_WordsOfLine_init).Nodup := sc_WordsOfLine_init.nd
  have hu : (R.deeper (envOfC "WordsOfLine.__init__" (defScope s_WordsOfLine_init) s.heap.objs.size T.f3 cdv)).units + 200 < cLine := by have := hr.un; omega
  have po := passes_of (X := (cxOf (L2.CX P w) P w K mg base N_WordsOfLine_init "WordsOfLine.__init__" (defScope s_WordsOfLine_init) T.f3 cdv R outer s H E)) rfl
  have hx : Passes (L2.CX P w) (cxOf (L2.CX P w) P w K mg base N_WordsOfLine_init "WordsOfLine.__init__" (defScope s_WordsOfLine_init) T.f3 cdv R outer s H E) E := passes_call (takes_of rfl rfl rfl rfl) fun _ _ _ _ h => h
  refine qss_cons ?_ ?_
  · exact qs_setF T.cls0 T.n0_words (qv 0) (q_split (qv 1) (q_str))
  refine qss_cons ?_ ?_
  · exact qs_setF T.cls0 T.n0_line (qv 0) (qv 1)
  refine qss_one ?_
  exact qs_setF T.cls0 T.n0_number (qv 0) (qv 2)
theorem ok_WordsOfLine_wrong {T : Txt P K mg cl} {k : Nat} (TB : Tabs K mg base T pt) (A : AllOk P w K mg base T pt (k + 2)) : FnG P w K mg base (k + 4) T.f4 T.fd4 ["self", "at"] (spOf K (defD 2 4 (den_WordsOfLine_wrong cl pt (Fn cl pt (k + 2))))) := by
  refine def_okGC T.F4 sc_WordsOfLine_wrong rfl fun cdv R outer s H E hcv hgd hr1 => ?_
  have hr := hr1.mono (Nat.le_succ (k + 2))
  have nd : (N_WordsOfLine_wrong).Nodup := sc_WordsOfLine_wrong.nd
  have hu : (R.deeper (envOfC "WordsOfLine.wrong" (defScope s_WordsOfLine_wrong) s.heap.objs.size T.f4 cdv)).units + 200 < cLine := by have := hr.un; omega
  have po := passes_of (X := (cxOf (L2.CX P w) P w K mg base N_WordsOfLine_wrong "WordsOfLine.wrong" (defScope s_WordsOfLine_wrong) T.f4 cdv R outer s H E)) rfl
  have hx : Passes (L2.CX P w) (cxOf (L2.CX P w) P w K mg base N_WordsOfLine_wrong "WordsOfLine.wrong" (defScope s_WordsOfLine_wrong) T.f4 cdv R outer s H E) E := passes_call (takes_of rfl rfl rfl rfl) fun _ _ _ _ h => h
  refine qss_cons ?_ ?_
  · exact qs_set (i := 2) nd rfl (by first | exact Or.inl rfl | exact Or.inr rfl) (q_add (q_int) (q_sumG (lv := _) (tg := .name 3) rfl nd hgd hr1 rfl T.b_sum TB.t0 (hcv.trans T.cd4) (q_seqI (q_sl (q_fld T.cls0 T.n0_words (qv 0)) (qo_none) (qo_some (qv 1)))) (blkOk_by (own := [("word", 3)]) (N := N_WordsOfLine_wrong) (sc := defScope s_WordsOfLine_wrong) (by decide +kernel)) (gscp_by (by decide +kernel)) (fun _ _ _ _ _ _ _ _ hgd hr => have hu := hu_by hr; ⟨pg_name (i := 3) nd rfl (by first | exact Or.inl rfl | exact Or.inr rfl), qts_nil, q_add (q_len rfl T.b_len (qv 3)) (q_int)⟩) rfl (by decide)))
  refine qss_one ?_
  exact qs_raise2N rfl (takes_of rfl rfl rfl rfl) (pmk_ox2N T.ox1 T.xi1 T.xt1 T.xo1 (xs_BadText) rfl (by decide) (by decide) T.xc1 T.xn1_line T.xn1_column (fun _ _ _ _ => rfl) hr rfl T.mg1 (pa_cons (q_fld T.cls0 T.n0_number (qv 0)) (pa_cons (q_min2 rfl rfl T.b_min (qv 2) (q_add (q_len rfl T.b_len (q_fld T.cls0 T.n0_line (qv 0))) (q_int))) pa_nil)))
theorem ok_WordsOfLine_read_inputs {T : Txt P K mg cl} {k : Nat} (TB : Tabs K mg base T pt) (A : AllOk P w K mg base T pt k) : FnG P w K mg base (k + 1) T.f5 T.fd5 ["self"] (spOf K (defD 1 2 (den_WordsOfLine_read_inputs cl pt (Fn cl pt k)))) := by
  refine def_okG T.F5 sc_WordsOfLine_read_inputs rfl fun cdv R outer s H E hgd hr => ?_
  have nd : (N_WordsOfLine_read_inputs).Nodup := sc_WordsOfLine_read_inputs.nd
  have hu : (R.deeper (envOfC "WordsOfLine.read_inputs" (defScope s_WordsOfLine_read_inputs) s.heap.objs.size T.f5 cdv)).units + 200 < cLine := by have := hr.un; omega
  have po := passes_of (X := (cxOf (L2.CX P w) P w K mg base N_WordsOfLine_read_inputs "WordsOfLine.read_inputs" (defScope s_WordsOfLine_read_inputs) T.f5 cdv R outer s H E)) rfl
  have hx : Passes (L2.CX P w) (cxOf (L2.CX P w) P w K mg base N_WordsOfLine_read_inputs "WordsOfLine.read_inputs" (defScope s_WordsOfLine_read_inputs) T.f5 cdv R outer s H E) E := passes_call (takes_of rfl rfl rfl rfl) fun _ _ _ _ h => h
  refine qss_cons ?_ ?_
  · refine qs_if ?_ ?_ ?_
    · exact (qt_ne hu (q_ix (q_fld T.cls0 T.n0_words (qv 0)) (q_int)) (q_str))
    · refine qss_one ?_
      exact qs_expr (q_meth A.o4 T.cls0 T.me0_wrong hgd hr T.b4 hx (qv 0) (qa_cons (q_int) (qa_nil)))
    · exact qss_nil
  refine qss_cons ?_ ?_
  · exact qs_set (i := 1) nd rfl (by first | exact Or.inl rfl | exact Or.inr rfl) (q_meth A.o9 T.cls0 T.me0_number_at hgd hr T.b9 hx (qv 0) (qa_cons (q_int) (qa_nil)))
  refine qss_cons ?_ ?_
  · refine qs_if ?_ ?_ ?_
    · exact (qt_gt (q_len rfl T.b_len (q_fld T.cls0 T.n0_words (qv 0))) (q_int))
    · refine qss_one ?_
      exact qs_expr (q_meth A.o4 T.cls0 T.me0_wrong hgd hr T.b4 hx (qv 0) (qa_cons (q_int) (qa_nil)))
    · exact qss_nil
  refine qss_one ?_
  exact qs_ret (qv 1)
theorem ok_WordsOfLine_read_gate {T : Txt P K mg cl} {k : Nat} (TB : Tabs K mg base T pt) (A : AllOk P w K mg base T pt k) : FnG P w K mg base (k + 1) T.f6 T.fd6 ["self"] (spOf K (defD 1 3 (den_WordsOfLine_read_gate cl pt (Fn cl pt k)))) := by
  refine def_okG T.F6 sc_WordsOfLine_read_gate rfl fun cdv R outer s H E hgd hr => ?_
  have nd : (N_WordsOfLine_read_gate).Nodup := sc_WordsOfLine_read_gate.nd
  have hu : (R.deeper (envOfC "WordsOfLine.read_gate" (defScope s_WordsOfLine_read_gate) s.heap.objs.size T.f6 cdv)).units + 200 < cLine := by have := hr.un; omega
  have po := passes_of (X := (cxOf (L2.CX P w) P w K mg base N_WordsOfLine_read_gate "WordsOfLine.read_gate" (defScope s_WordsOfLine_read_gate) T.f6 cdv R outer s H E)) rfl
  have hx : Passes (L2.CX P w) (cxOf (L2.CX P w) P w K mg base N_WordsOfLine_read_gate "WordsOfLine.read_gate" (defScope s_WordsOfLine_read_gate) T.f6 cdv R outer s H E) E := passes_call (takes_of rfl rfl rfl rfl) fun _ _ _ _ h => h
  refine qss_cons ?_ ?_
  · refine qs_if ?_ ?_ ?_
    · exact (qt_ne hu (q_ix (q_fld T.cls0 T.n0_words (qv 0)) (q_int)) (q_str))
    · refine qss_one ?_
      exact qs_expr (q_meth A.o4 T.cls0 T.me0_wrong hgd hr T.b4 hx (qv 0) (qa_cons (q_int) (qa_nil)))
    · exact qss_nil
  refine qss_cons ?_ ?_
  · exact qs_set (i := 1) nd rfl (by first | exact Or.inl rfl | exact Or.inr rfl) (q_meth0 A.o7 T.cls0 T.me0_gate_words hgd hr T.b7 hx (qv 0))
  refine qss_cons ?_ ?_
  · exact qs_set (i := 2) nd rfl (by first | exact Or.inl rfl | exact Or.inr rfl) (q_meth A.o8 T.cls0 T.me0_numbers_from hgd hr T.b8 hx (qv 0) (qa_cons (q_int) (qa_nil)))
  refine qss_cons ?_ ?_
  · refine qs_if ?_ ?_ ?_
    · exact (qt_ne hu (q_len rfl T.b_len (qv 1)) (q_shl (q_int) (q_len rfl T.b_len (qv 2))))
    · refine qss_one ?_
      exact qs_expr (q_meth A.o4 T.cls0 T.me0_wrong hgd hr T.b4 hx (qv 0) (qa_cons (q_int) (qa_nil)))
    · exact qss_nil
  refine qss_one ?_
  exact qs_ret (q_tup (qa_cons (qv 2) (qa_cons (qv 1) (qa_nil))))
theorem ok_WordsOfLine_gate_words {T : Txt P K mg cl} {k : Nat} (TB : Tabs K mg base T pt) (A : AllOk P w K mg base T pt k) : FnG P w K mg base (k + 2) T.f7 T.fd7 ["self"] (spOf K (defD 1 4 (den_WordsOfLine_gate_words cl pt (Fn cl pt k)))) := by
  refine def_okGC T.F7 sc_WordsOfLine_gate_words rfl fun cdv R outer s H E hcv hgd hr1 => ?_
  have hr := hr1.mono (Nat.le_succ k)
  have nd : (N_WordsOfLine_gate_words).Nodup := sc_WordsOfLine_gate_words.nd
  have hu : (R.deeper (envOfC "WordsOfLine.gate_words" (defScope s_WordsOfLine_gate_words) s.heap.objs.size T.f7 cdv)).units + 200 < cLine := by have := hr.un; omega
  have po := passes_of (X := (cxOf (L2.CX P w) P w K mg base N_WordsOfLine_gate_words "WordsOfLine.gate_words" (defScope s_WordsOfLine_gate_words) T.f7 cdv R outer s H E)) rfl
  have hx : Passes (L2.CX P w) (cxOf (L2.CX P w) P w K mg base N_WordsOfLine_gate_words "WordsOfLine.gate_words" (defScope s_WordsOfLine_gate_words) T.f7 cdv R outer s H E) E := passes_call (takes_of rfl rfl rfl rfl) fun _ _ _ _ h => h
  refine qss_cons ?_ ?_
  · refine qs_if ?_ ?_ ?_
    · exact (qt_lt (q_len rfl T.b_len (q_fld T.cls0 T.n0_words (qv 0))) (q_int))
    · refine qss_one ?_
      exact qs_expr (q_meth A.o4 T.cls0 T.me0_wrong hgd hr T.b4 hx (qv 0) (qa_cons (q_int) (qa_nil)))
    · exact qss_nil
  refine qss_cons ?_ ?_
  · exact qs_set (i := 1) nd rfl (by first | exact Or.inl rfl | exact Or.inr rfl) (q_ix (q_fld T.cls0 T.n0_words (qv 0)) (q_int))
  refine qss_cons ?_ ?_
  · exact qs_set (i := 2) nd rfl (by first | exact Or.inl rfl | exact Or.inr rfl) (q_len rfl T.b_len (qv 1))
  refine qss_cons ?_ ?_
  · refine qs_if ?_ ?_ ?_
    · exact (qt_w (qw_or (qt_eq hu (qv 2) (q_int)) (qw_or (qt_ne hu (q_and (qv 2) (q_sub (qv 2) (q_int))) (q_int)) (qw_or1 (qt_not (qt_val (q_allG (lv := _) (tg := .name 3) rfl nd hgd hr1 rfl T.b_all TB.t1 (hcv.trans T.cd7) (q_txtI (qv 1)) (blkOk_by (own := [("sign", 3)]) (N := N_WordsOfLine_gate_words) (sc := defScope s_WordsOfLine_gate_words) (by decide +kernel)) (gscp_by (by decide +kernel)) (fun _ _ _ _ _ _ _ _ hgd hr => have hu := hu_by hr; ⟨pg_name (i := 3) nd rfl (by first | exact Or.inl rfl | exact Or.inr rfl), qts_nil, q_inS (qv 3) (q_str)⟩) rfl (by decide))))))))
    · refine qss_one ?_
      exact qs_expr (q_meth A.o4 T.cls0 T.me0_wrong hgd hr T.b4 hx (qv 0) (qa_cons (q_int) (qa_nil)))
    · exact qss_nil
  refine qss_one ?_
  exact qs_ret (q_tupG (lv := _) (tg := .name 3) rfl nd hgd hr1 rfl T.b_tuple TB.t1 (hcv.trans T.cd7) (q_txtI (qv 1)) (blkOk_by (own := [("sign", 3)]) (N := N_WordsOfLine_gate_words) (sc := defScope s_WordsOfLine_gate_words) (by decide +kernel)) (gscp_by (by decide +kernel)) (fun _ _ _ _ _ _ _ _ hgd hr => have hu := hu_by hr; ⟨pg_name (i := 3) nd rfl (by first | exact Or.inl rfl | exact Or.inr rfl), qts_nil, q_intS rfl T.b_int (qv 3)⟩) rfl (by decide))
theorem ok_WordsOfLine_numbers_from {T : Txt P K mg cl} {k : Nat} (TB : Tabs K mg base T pt) (A : AllOk P w K mg base T pt k) : FnG P w K mg base (k + 2) T.f8 T.fd8 ["self", "first"] (spOf K (defD 2 3 (den_WordsOfLine_numbers_from cl pt (Fn cl pt k)))) := by
  refine def_okGC T.F8 sc_WordsOfLine_numbers_from rfl fun cdv R outer s H E hcv hgd hr1 => ?_
  have hr := hr1.mono (Nat.le_succ k)
  have nd : (N_WordsOfLine_numbers_from).Nodup := sc_WordsOfLine_numbers_from.nd
  have hu : (R.deeper (envOfC "WordsOfLine.numbers_from" (defScope s_WordsOfLine_numbers_from) s.heap.objs.size T.f8 cdv)).units + 200 < cLine := by have := hr.un; omega
  have po := passes_of (X := (cxOf (L2.CX P w) P w K mg base N_WordsOfLine_numbers_from "WordsOfLine.numbers_from" (defScope s_WordsOfLine_numbers_from) T.f8 cdv R outer s H E)) rfl
  have hx : Passes (L2.CX P w) (cxOf (L2.CX P w) P w K mg base N_WordsOfLine_numbers_from "WordsOfLine.numbers_from" (defScope s_WordsOfLine_numbers_from) T.f8 cdv R outer s H E) E := passes_call (takes_of rfl rfl rfl rfl) fun _ _ _ _ h => h
  refine qss_one ?_
  exact qs_ret (q_tupX (Ca := cl 1) (lv := _) (tg := .name 2) rfl nd hgd hr1 rfl T.b_tuple TB.t2 (hcv.trans T.cd8) (q_rng2 (pi_range2 (by rfl) T.b_range (qa_cons (qv 1) (qa_cons (q_len rfl T.b_len (q_fld T.cls0 T.n0_words (qv 0))) qa_nil)))) (blkOk_by (own := [("at", 2)]) (N := N_WordsOfLine_numbers_from) (sc := defScope s_WordsOfLine_numbers_from) (by decide +kernel)) (gscp_by (by decide +kernel)) (fun _ _ _ _ _ _ _ _ _ hgd hr => have hu := hu_by hr; ⟨pg_name (i := 2) nd rfl (by first | exact Or.inl rfl | exact Or.inr rfl), qts_nil, q_meth A.o9 T.cls0 T.me0_number_at hgd hr T.b9 (passes_call (takes_gxX rfl) fun _ _ _ _ h => h) (qv 0) (qa_cons (qv 2) (qa_nil))⟩) T.xns1 (takes_of rfl rfl rfl rfl) rfl (by decide))
theorem ok_WordsOfLine_number_at {T : Txt P K mg cl} {k : Nat} (TB : Tabs K mg base T pt) (A : AllOk P w K mg base T pt k) : FnG P w K mg base (k + 1) T.f9 T.fd9 ["self", "at"] (spOf K (defD 2 2 (den_WordsOfLine_number_at cl pt (Fn cl pt k)))) := by
  refine def_okG T.F9 sc_WordsOfLine_number_at rfl fun cdv R outer s H E hgd hr => ?_
  have nd : (N_WordsOfLine_number_at).Nodup := sc_WordsOfLine_number_at.nd
  have hu : (R.deeper (envOfC "WordsOfLine.number_at" (defScope s_WordsOfLine_number_at) s.heap.objs.size T.f9 cdv)).units + 200 < cLine := by have := hr.un; omega
  have po := passes_of (X := (cxOf (L2.CX P w) P w K mg base N_WordsOfLine_number_at "WordsOfLine.number_at" (defScope s_WordsOfLine_number_at) T.f9 cdv R outer s H E)) rfl
  have hx : Passes (L2.CX P w) (cxOf (L2.CX P w) P w K mg base N_WordsOfLine_number_at "WordsOfLine.number_at" (defScope s_WordsOfLine_number_at) T.f9 cdv R outer s H E) E := passes_call (takes_of rfl rfl rfl rfl) fun _ _ _ _ h => h
  refine qss_cons ?_ ?_
  · refine qs_if ?_ ?_ ?_
    · exact (qt_w (qw_or (qt_ge (qv 1) (q_len rfl T.b_len (q_fld T.cls0 T.n0_words (qv 0)))) (qw_or1 (qt_not (qt_val (q_callG A.o10 hgd hr rfl T.m10 T.k10 T.b10 hx (qa_cons (q_ix (q_fld T.cls0 T.n0_words (qv 0)) (qv 1)) (qa_nil))))))))
    · refine qss_one ?_
      exact qs_expr (q_meth A.o4 T.cls0 T.me0_wrong hgd hr T.b4 hx (qv 0) (qa_cons (qv 1) (qa_nil)))
    · exact qss_nil
  refine qss_one ?_
  exact qs_ret (q_intS rfl T.b_int (q_ix (q_fld T.cls0 T.n0_words (qv 0)) (qv 1)))
theorem ok_is_figures {T : Txt P K mg cl} {k : Nat} (TB : Tabs K mg base T pt) (A : AllOk P w K mg base T pt k) : FnG P w K mg base (k + 2) T.f10 T.fd10 ["word"] (spOf K (defD 1 2 (den_is_figures cl pt (Fn cl pt k)))) := by
  refine def_okGC T.F10 sc_is_figures rfl fun cdv R outer s H E hcv hgd hr1 => ?_
  have hr := hr1.mono (Nat.le_succ k)
  have nd : (N_is_figures).Nodup := sc_is_figures.nd
  have hu : (R.deeper (envOfC "is_figures" (defScope s_is_figures) s.heap.objs.size T.f10 cdv)).units + 200 < cLine := by have := hr.un; omega
  have po := passes_of (X := (cxOf (L2.CX P w) P w K mg base N_is_figures "is_figures" (defScope s_is_figures) T.f10 cdv R outer s H E)) rfl
  have hx : Passes (L2.CX P w) (cxOf (L2.CX P w) P w K mg base N_is_figures "is_figures" (defScope s_is_figures) T.f10 cdv R outer s H E) E := passes_call (takes_of rfl rfl rfl rfl) fun _ _ _ _ h => h
  refine qss_cons ?_ ?_
  · refine qs_if ?_ ?_ ?_
    · exact (qt_w (qw_or (qt_not (qt_chain op_le op_le b2_B0 b2_B0 (q_int) (q_len rfl T.b_len (qv 0)) (q_gc rfl T.c_MOST_FIGURES T.d_MOST_FIGURES))) (qw_or1 (qt_w (qw_and (qt_gt (q_len rfl T.b_len (qv 0)) (q_int)) (qw_and1 (qt_eq hu (q_ixS (qv 0) (q_int)) (q_str))))))))
    · refine qss_one ?_
      exact qs_ret (q_bl)
    · exact qss_nil
  refine qss_one ?_
  exact qs_ret (q_allG (lv := _) (tg := .name 1) rfl nd hgd hr1 rfl T.b_all TB.t3 (hcv.trans T.cd10) (q_txtI (qv 0)) (blkOk_by (own := [("sign", 1)]) (N := N_is_figures) (sc := defScope s_is_figures) (by decide +kernel)) (gscp_by (by decide +kernel)) (fun _ _ _ _ _ _ _ _ hgd hr => have hu := hu_by hr; ⟨pg_name (i := 1) nd rfl (by first | exact Or.inl rfl | exact Or.inr rfl), qts_nil, q_inS (qv 1) (q_gc rfl T.c_FIGURES T.d_FIGURES)⟩) rfl (by decide))
theorem ok__law_cell_at {T : Txt P K mg cl} {k : Nat} (TB : Tabs K mg base T pt) (A : AllOk P w K mg base T pt k) : FnG P w K mg base (k + 1) T.f11 T.fd11 ["script", "k"] (spOf K (defD 2 2 (den__law_cell_at cl pt (Fn cl pt k)))) := by
  refine def_okG T.F11 sc__law_cell_at rfl fun cdv R outer s H E hgd hr => ?_
  have nd : (N__law_cell_at).Nodup := sc__law_cell_at.nd
  have hu : (R.deeper (envOfC "_law_cell_at" (defScope s__law_cell_at) s.heap.objs.size T.f11 cdv)).units + 200 < cLine := by have := hr.un; omega
  have po := passes_of (X := (cxOf (L2.CX P w) P w K mg base N__law_cell_at "_law_cell_at" (defScope s__law_cell_at) T.f11 cdv R outer s H E)) rfl
  have hx : Passes (L2.CX P w) (cxOf (L2.CX P w) P w K mg base N__law_cell_at "_law_cell_at" (defScope s__law_cell_at) T.f11 cdv R outer s H E) E := passes_call (takes_of rfl rfl rfl rfl) fun _ _ _ _ h => h
  refine qss_cons ?_ ?_
  · refine qs_if ?_ ?_ ?_
    · exact (qt_lt (qv 1) (q_len rfl T.b_len (qv 0)))
    · refine qss_one ?_
      exact qs_ret (q_ix (qv 0) (qv 1))
    · exact qss_nil
  refine qss_one ?_
  exact qs_ret (q_int)
theorem ok__law_draw {T : Txt P K mg cl} {k : Nat} (TB : Tabs K mg base T pt) (A : AllOk P w K mg base T pt k) : FnG P w K mg base (k + 1) T.f12 T.fd12 ["cell", "k", "bound"] (spOf K (defD 3 4 (den__law_draw cl pt (Fn cl pt k)))) := by
  refine def_okG T.F12 sc__law_draw rfl fun cdv R outer s H E hgd hr => ?_
  have nd : (N__law_draw).Nodup := sc__law_draw.nd
  have hu : (R.deeper (envOfC "_law_draw" (defScope s__law_draw) s.heap.objs.size T.f12 cdv)).units + 200 < cLine := by have := hr.un; omega
  have po := passes_of (X := (cxOf (L2.CX P w) P w K mg base N__law_draw "_law_draw" (defScope s__law_draw) T.f12 cdv R outer s H E)) rfl
  have hx : Passes (L2.CX P w) (cxOf (L2.CX P w) P w K mg base N__law_draw "_law_draw" (defScope s__law_draw) T.f12 cdv R outer s H E) E := passes_call (takes_of rfl rfl rfl rfl) fun _ _ _ _ h => h
  refine qss_cons ?_ ?_
  · exact qs_set (i := 3) nd rfl (by first | exact Or.inl rfl | exact Or.inr rfl) (q_tup (qa_cons (q_int) (qa_cons (q_int) (qa_cons (q_int) (qa_cons (q_int) (qa_cons (q_int) (qa_cons (q_int) (qa_cons (q_int) (qa_cons (q_int) (qa_cons (q_int) (qa_cons (q_int) (qa_cons (q_int) (qa_cons (q_int) (qa_cons (q_int) (qa_cons (q_int) (qa_cons (q_int) (qa_cons (q_int) (qa_nil))))))))))))))))))
  refine qss_one ?_
  exact qs_ret (q_mod (q_mod (q_int1 rfl T.b_int (q_add (q_mul (qv 0) (q_int)) (q_mul (qv 1) (q_int)))) (q_ix (qv 3) (q_mod (q_int1 rfl T.b_int (qv 1)) (q_int)))) (qv 2))
theorem ok__law_number {T : Txt P K mg cl} {k : Nat} (TB : Tabs K mg base T pt) (A : AllOk P w K mg base T pt k) : FnG P w K mg base (k + 1) T.f13 T.fd13 ["cell", "k", "bound"] (spOf K (defD 3 7 (den__law_number cl pt (Fn cl pt k)))) := by
  refine def_okG T.F13 sc__law_number rfl fun cdv R outer s H E hgd hr => ?_
  have nd : (N__law_number).Nodup := sc__law_number.nd
  have hu : (R.deeper (envOfC "_law_number" (defScope s__law_number) s.heap.objs.size T.f13 cdv)).units + 200 < cLine := by have := hr.un; omega
  have po := passes_of (X := (cxOf (L2.CX P w) P w K mg base N__law_number "_law_number" (defScope s__law_number) T.f13 cdv R outer s H E)) rfl
  have hx : Passes (L2.CX P w) (cxOf (L2.CX P w) P w K mg base N__law_number "_law_number" (defScope s__law_number) T.f13 cdv R outer s H E) E := passes_call (takes_of rfl rfl rfl rfl) fun _ _ _ _ h => h
  refine qss_cons ?_ ?_
  · exact qs_set (i := 3) nd rfl (by first | exact Or.inl rfl | exact Or.inr rfl) (q_int)
  refine qss_cons ?_ ?_
  · refine qs_for (tg := .name 4) po rfl ?_ ?_ ?_
    · exact (q_rng1 rfl T.b_range (q_mod (q_int1 rfl T.b_int (qv 1)) (q_int)))
    · exact (pg_name (i := 4) nd rfl (by first | exact Or.inl rfl | exact Or.inr rfl))
    · refine qss_one ?_
      exact qs_set (i := 3) nd rfl (by first | exact Or.inl rfl | exact Or.inr rfl) (q_mul (qv 3) (q_int))
  refine qss_cons ?_ ?_
  · exact qs_set (i := 5) nd rfl (by first | exact Or.inl rfl | exact Or.inr rfl) (q_div (q_sub (qv 0) (q_pow (q_int) (q_int))) (qv 3))
  refine qss_cons ?_ ?_
  · refine qs_if ?_ ?_ ?_
    · exact (qt_gt (qv 5) (q_int))
    · refine qss_one ?_
      exact qs_ret (q_mod (q_mod (q_int1 rfl T.b_int (qv 5)) (q_int)) (qv 2))
    · exact qss_nil
  refine qss_cons ?_ ?_
  · exact qs_set (i := 6) nd rfl (by first | exact Or.inl rfl | exact Or.inr rfl) (q_mod (q_int1 rfl T.b_int (qv 0)) (q_int))
  refine qss_one ?_
  exact qs_ret (q_mod (q_callG A.o12 hgd hr rfl T.m12 T.k12 T.b12 hx (qa_cons (q_mul (q_add (qv 6) (q_mul (q_int) (qv 1))) (q_add (q_add (qv 6) (q_mul (q_int) (qv 1))) (q_int))) (qa_cons (q_add (q_mod (q_int1 rfl T.b_int (qv 1)) (q_int)) (q_int)) (qa_cons (q_int) (qa_nil))))) (qv 2))
theorem ok__law_next {T : Txt P K mg cl} {k : Nat} (TB : Tabs K mg base T pt) (A : AllOk P w K mg base T pt k) : FnG P w K mg base (k + 1) T.f14 T.fd14 ["draw", "bound"] (spOf K (defD 2 4 (den__law_next cl pt (Fn cl pt k)))) := by
  refine def_okG T.F14 sc__law_next rfl fun cdv R outer s H E hgd hr => ?_
  have nd : (N__law_next).Nodup := sc__law_next.nd
  have hu : (R.deeper (envOfC "_law_next" (defScope s__law_next) s.heap.objs.size T.f14 cdv)).units + 200 < cLine := by have := hr.un; omega
  have po := passes_of (X := (cxOf (L2.CX P w) P w K mg base N__law_next "_law_next" (defScope s__law_next) T.f14 cdv R outer s H E)) rfl
  have hx : Passes (L2.CX P w) (cxOf (L2.CX P w) P w K mg base N__law_next "_law_next" (defScope s__law_next) T.f14 cdv R outer s H E) E := passes_call (takes_of rfl rfl rfl rfl) fun _ _ _ _ h => h
  refine qss_cons ?_ ?_
  · exact qs_setI (ps_asg (q_add (q_ix (qv 0) (q_int)) (q_int)) (pg_sub (qv 0) (q_int) set_list))
  refine qss_cons ?_ ?_
  · exact qs_set (i := 2) nd rfl (by first | exact Or.inl rfl | exact Or.inr rfl) (q_div (q_ix (qv 0) (q_int)) (q_int))
  refine qss_cons ?_ ?_
  · exact qs_set (i := 3) nd rfl (by first | exact Or.inl rfl | exact Or.inr rfl) (q_add (q_callG A.o11 hgd hr rfl T.m11 T.k11 T.b11 hx (qa_cons (q_ix (qv 0) (q_int)) (qa_cons (q_cat (q_ix (qv 0) (q_int)) (qv 2)) (qa_nil)))) (q_mul (q_int) (qv 2)))
  refine qss_one ?_
  exact qs_ret (q_callG A.o13 hgd hr rfl T.m13 T.k13 T.b13 hx (qa_cons (qv 3) (qa_cons (q_add (q_mod (q_int1 rfl T.b_int (q_ix (qv 0) (q_int))) (q_int)) (q_int)) (qa_cons (qv 1) (qa_nil)))))
theorem ok__law_place {T : Txt P K mg cl} {k : Nat} (TB : Tabs K mg base T pt) (A : AllOk P w K mg base T pt k) : FnG P w K mg base (k + 1) T.f15 T.fd15 ["text"] (spOf K (defD 1 2 (den__law_place cl pt (Fn cl pt k)))) := by
  refine def_okG T.F15 sc__law_place rfl fun cdv R outer s H E hgd hr => ?_
  have nd : (N__law_place).Nodup := sc__law_place.nd
  have hu : (R.deeper (envOfC "_law_place" (defScope s__law_place) s.heap.objs.size T.f15 cdv)).units + 200 < cLine := by have := hr.un; omega
  have po := passes_of (X := (cxOf (L2.CX P w) P w K mg base N__law_place "_law_place" (defScope s__law_place) T.f15 cdv R outer s H E)) rfl
  have hx : Passes (L2.CX P w) (cxOf (L2.CX P w) P w K mg base N__law_place "_law_place" (defScope s__law_place) T.f15 cdv R outer s H E) E := passes_call (takes_of rfl rfl rfl rfl) fun _ _ _ _ h => h
  refine qss_cons ?_ ?_
  · refine qs_tryE rfl rfl nd (i := 1) rfl rfl rfl T.mg1 (by decide) T.xf1 T.xn1_line T.xn1_column T.xe1 (by decide) (by decide) (fun _ => rfl) (fun _ => rfl) (Or.inl rfl) (fun pn xe E1 W tk hW => q_callG A.o2 hgd hr rfl T.m2 T.k2 T.b2 (passes_call tk hW) (qa_cons (qv 0) (qa_nil))) ?_
    · exact qss_nil
  refine qss_one ?_
  exact qs_ret (q_non)
theorem ok_law {T : Txt P K mg cl} {k : Nat} (TB : Tabs K mg base T pt) (A : AllOk P w K mg base T pt k) : FnG P w K mg base (k + 1) T.f16 T.fd16 ["script"] (spOf K (defD 1 19 (den_law cl pt (Fn cl pt k)))) := by
  refine def_okG T.F16 sc_law rfl fun cdv R outer s H E hgd hr => ?_
  have nd : (N_law).Nodup := sc_law.nd
  have hu : (R.deeper (envOfC "law" (defScope s_law) s.heap.objs.size T.f16 cdv)).units + 200 < cLine := by have := hr.un; omega
  have po := passes_of (X := (cxOf (L2.CX P w) P w K mg base N_law "law" (defScope s_law) T.f16 cdv R outer s H E)) rfl
  have hx : Passes (L2.CX P w) (cxOf (L2.CX P w) P w K mg base N_law "law" (defScope s_law) T.f16 cdv R outer s H E) E := passes_call (takes_of rfl rfl rfl rfl) fun _ _ _ _ h => h
  refine qss_cons ?_ ?_
  · exact qs_set (i := 1) nd rfl (by first | exact Or.inl rfl | exact Or.inr rfl) (q_lstM (qa_cons (q_sl (qv 0) (qo_none) (qo_some (q_int))) (qa_cons (q_int) (qa_cons (q_int) (qa_nil)))))
  refine qss_cons ?_ ?_
  · first
    | exact qs_par3s (ps_par3 (i := 2) (j := 3) (l := 4) rfl nd rfl rfl rfl (by decide) (by decide) (by decide) rfl rfl rfl (qa_cons (q_callG A.o14 hgd hr rfl T.m14 T.k14 T.b14 hx (qa_cons (qv 1) (qa_cons (q_int) (qa_nil)))) (qa_cons (q_lstM (qa_nil)) (qa_cons (q_lstM (qa_nil)) (qa_nil)))) (by rfl))
    | exact qs_par3 (i := 2) (j := 3) (h := 4) rfl nd rfl rfl rfl (by first | exact Or.inl rfl | exact Or.inr rfl) (by first | exact Or.inl rfl | exact Or.inr rfl) (by first | exact Or.inl rfl | exact Or.inr rfl) (qa_cons (q_callG A.o14 hgd hr rfl T.m14 T.k14 T.b14 hx (qa_cons (qv 1) (qa_cons (q_int) (qa_nil)))) (qa_cons (q_lstM (qa_nil)) (qa_cons (q_lstM (qa_nil)) (qa_nil))))
  refine qss_cons ?_ ?_
  · refine qs_for (tg := .name 5) po rfl ?_ ?_ ?_
    · exact (q_rng1 rfl T.b_range (q_callG A.o14 hgd hr rfl T.m14 T.k14 T.b14 hx (qa_cons (qv 1) (qa_cons (q_int) (qa_nil)))))
    · exact (pg_name (i := 5) nd rfl (by first | exact Or.inl rfl | exact Or.inr rfl))
    · refine qss_cons ?_ ?_
      · exact qs_set (i := 13) nd rfl (by first | exact Or.inl rfl | exact Or.inr rfl) (q_callG A.o14 hgd hr rfl T.m14 T.k14 T.b14 hx (qa_cons (qv 1) (qa_cons (q_int) (qa_nil))))
      refine qss_cons ?_ ?_
      · first
        | exact qs_par (ps_par (i := 14) (j := 15) rfl nd rfl rfl (by decide) rfl rfl (qa_cons (q_tuple rfl T.b_tuple (q_lc (tg := .name 16) rfl nd (q_rng1 rfl T.b_range (qv 13)) (blkOk_by (own := [("turn", 16)]) (N := N_law) (sc := defScope s_law) (by decide +kernel)) (fun _ _ _ _ _ => pg_name (i := 16) nd rfl (by first | exact Or.inl rfl | exact Or.inr rfl)) (fun _ _ _ _ _ => qts_nil) (fun _ _ _ _ _ => q_callG A.o14 hgd hr rfl T.m14 T.k14 T.b14 passL (qa_cons (qv 1) (qa_cons (q_int) (qa_nil)))) rfl (by decide))) (qa_cons (q_tuple rfl T.b_tuple (q_lc (tg := .name 16) rfl nd (q_rng1 rfl T.b_range (q_shl (q_int) (qv 13))) (blkOk_by (own := [("turn", 16)]) (N := N_law) (sc := defScope s_law) (by decide +kernel)) (fun _ _ _ _ _ => pg_name (i := 16) nd rfl (by first | exact Or.inl rfl | exact Or.inr rfl)) (fun _ _ _ _ _ => qts_nil) (fun _ _ _ _ _ => q_callG A.o14 hgd hr rfl T.m14 T.k14 T.b14 passL (qa_cons (qv 1) (qa_cons (q_int) (qa_nil)))) rfl (by decide))) (qa_nil))) (by rfl))
        | exact qs_parC (i := 14) (j := 15) rfl nd rfl rfl (by first | exact Or.inl rfl | exact Or.inr rfl) (by first | exact Or.inl rfl | exact Or.inr rfl) (qa_cons (q_tuple rfl T.b_tuple (q_lc (tg := .name 16) rfl nd (q_rng1 rfl T.b_range (qv 13)) (blkOk_by (own := [("turn", 16)]) (N := N_law) (sc := defScope s_law) (by decide +kernel)) (fun _ _ _ _ _ => pg_name (i := 16) nd rfl (by first | exact Or.inl rfl | exact Or.inr rfl)) (fun _ _ _ _ _ => qts_nil) (fun _ _ _ _ _ => q_callG A.o14 hgd hr rfl T.m14 T.k14 T.b14 passL (qa_cons (qv 1) (qa_cons (q_int) (qa_nil)))) rfl (by decide))) (qa_cons (q_tuple rfl T.b_tuple (q_lc (tg := .name 16) rfl nd (q_rng1 rfl T.b_range (q_shl (q_int) (qv 13))) (blkOk_by (own := [("turn", 16)]) (N := N_law) (sc := defScope s_law) (by decide +kernel)) (fun _ _ _ _ _ => pg_name (i := 16) nd rfl (by first | exact Or.inl rfl | exact Or.inr rfl)) (fun _ _ _ _ _ => qts_nil) (fun _ _ _ _ _ => q_callG A.o14 hgd hr rfl T.m14 T.k14 T.b14 passL (qa_cons (qv 1) (qa_cons (q_int) (qa_nil)))) rfl (by decide))) (qa_nil)))
      refine qss_cons ?_ ?_
      · exact qs_expr (q_append (qv 3) (q_tup (qa_cons (qv 14) (qa_cons (qv 15) (qa_nil)))))
      refine qss_one ?_
      exact qs_expr (q_append (qv 4) (q_cat (q_cat (q_str) (q_join (q_str) (q_lc (tg := .name 18) rfl nd (q_seqI (qv 15)) (blkOk_by (own := [("word", 18)]) (N := N_law) (sc := defScope s_law) (by decide +kernel)) (fun _ _ _ _ _ => pg_name (i := 18) nd rfl (by first | exact Or.inl rfl | exact Or.inr rfl)) (fun _ _ _ _ _ => qts_nil) (fun _ _ _ _ _ => q_strX rfl T.b_str (qv 18)) rfl (by decide)))) (q_join (q_str) (q_lc (tg := .name 17) rfl nd (q_seqI (qv 14)) (blkOk_by (own := [("signal", 17)]) (N := N_law) (sc := defScope s_law) (by decide +kernel)) (fun _ _ _ _ _ => pg_name (i := 17) nd rfl (by first | exact Or.inl rfl | exact Or.inr rfl)) (fun _ _ _ _ _ => qts_nil) (fun _ _ _ _ _ => q_cat (q_str) (q_strX rfl T.b_str (qv 17))) rfl (by decide)))))
  refine qss_cons ?_ ?_
  · exact qs_set (i := 6) nd rfl (by first | exact Or.inl rfl | exact Or.inr rfl) (q_tuple rfl T.b_tuple (q_lc (tg := .name 16) rfl nd (q_rng1 rfl T.b_range (q_callG A.o14 hgd hr rfl T.m14 T.k14 T.b14 hx (qa_cons (qv 1) (qa_cons (q_int) (qa_nil))))) (blkOk_by (own := [("turn", 16)]) (N := N_law) (sc := defScope s_law) (by decide +kernel)) (fun _ _ _ _ _ => pg_name (i := 16) nd rfl (by first | exact Or.inl rfl | exact Or.inr rfl)) (fun _ _ _ _ _ => qts_nil) (fun _ _ _ _ _ => q_callG A.o14 hgd hr rfl T.m14 T.k14 T.b14 passL (qa_cons (qv 1) (qa_cons (q_int) (qa_nil)))) rfl (by decide)))
  refine qss_cons ?_ ?_
  · exact qs_set (i := 7) nd rfl (by first | exact Or.inl rfl | exact Or.inr rfl) (q_join (q_str) (q_cat (q_cat (q_lst (qa_cons (q_cat (q_str) (q_strX rfl T.b_str (qv 2))) (qa_nil))) (qv 4)) (q_lst (qa_cons (q_cat (q_str) (q_join (q_str) (q_lc (tg := .name 17) rfl nd (q_seqI (qv 6)) (blkOk_by (own := [("signal", 17)]) (N := N_law) (sc := defScope s_law) (by decide +kernel)) (fun _ _ _ _ _ => pg_name (i := 17) nd rfl (by first | exact Or.inl rfl | exact Or.inr rfl)) (fun _ _ _ _ _ => qts_nil) (fun _ _ _ _ _ => q_cat (q_str) (q_strX rfl T.b_str (qv 17))) rfl (by decide)))) (qa_nil)))))
  refine qss_cons ?_ ?_
  · exact qs_set (i := 8) nd rfl (by first | exact Or.inl rfl | exact Or.inr rfl) (q_tup (qa_cons (qv 2) (qa_cons (q_tuple rfl T.b_tuple (qv 3)) (qa_cons (qv 6) (qa_nil)))))
  refine qss_cons ?_ ?_
  · refine qs_if ?_ ?_ ?_
    · exact (qt_w (qw_or (qt_ne hu (q_callG A.o0 hgd hr rfl T.m0 T.k0 T.b0 hx (qa_cons (qv 8) (qa_nil))) (qv 7)) (qw_or1 (qt_ne hu (q_callG A.o2 hgd hr rfl T.m2 T.k2 T.b2 hx (qa_cons (qv 7) (qa_nil))) (qv 8)))))
    · refine qss_one ?_
      exact qs_ret (q_bl)
    · exact qss_nil
  refine qss_cons ?_ ?_
  · exact qs_set (i := 9) nd rfl (by first | exact Or.inl rfl | exact Or.inr rfl) (q_str)
  refine qss_cons ?_ ?_
  · exact qs_set (i := 10) nd rfl (by first | exact Or.inl rfl | exact Or.inr rfl) (q_lst (qa_cons (q_tup (qa_cons (q_str) (qa_cons (q_tup (qa_cons (q_int) (qa_cons (q_int) (qa_nil)))) (qa_nil)))) (qa_cons (q_tup (qa_cons (q_str) (qa_cons (q_tup (qa_cons (q_int) (qa_cons (q_int) (qa_nil)))) (qa_nil)))) (qa_cons (q_tup (qa_cons (q_str) (qa_cons (q_tup (qa_cons (q_int) (qa_cons (q_int) (qa_nil)))) (qa_nil)))) (qa_cons (q_tup (qa_cons (q_str) (qa_cons (q_tup (qa_cons (q_int) (qa_cons (q_int) (qa_nil)))) (qa_nil)))) (qa_cons (q_tup (qa_cons (q_str) (qa_cons (q_tup (qa_cons (q_int) (qa_cons (q_int) (qa_nil)))) (qa_nil)))) (qa_cons (q_tup (qa_cons (q_str) (qa_cons (q_tup (qa_cons (q_int) (qa_cons (q_int) (qa_nil)))) (qa_nil)))) (qa_cons (q_tup (qa_cons (q_str) (qa_cons (q_tup (qa_cons (q_int) (qa_cons (q_int) (qa_nil)))) (qa_nil)))) (qa_nil)))))))))
  refine qss_cons ?_ ?_
  · exact qs_set (i := 10) nd rfl (by first | exact Or.inl rfl | exact Or.inr rfl) (q_cat (qv 10) (q_lst (qa_cons (q_tup (qa_cons (q_cat (qv 9) (q_str)) (qa_cons (q_tup (qa_cons (q_int) (qa_cons (q_int) (qa_nil)))) (qa_nil)))) (qa_cons (q_tup (qa_cons (qv 9) (qa_cons (q_tup (qa_cons (q_int) (qa_cons (q_int) (qa_nil)))) (qa_nil)))) (qa_nil)))))
  refine qss_cons ?_ ?_
  · exact qs_set (i := 10) nd rfl (by first | exact Or.inl rfl | exact Or.inr rfl) (q_cat (qv 10) (q_lst (qa_cons (q_tup (qa_cons (q_str) (qa_cons (q_tup (qa_cons (q_int) (qa_cons (q_int) (qa_nil)))) (qa_nil)))) (qa_cons (q_tup (qa_cons (q_cat (qv 9) (q_str)) (qa_cons (q_tup (qa_cons (q_int) (qa_cons (q_int) (qa_nil)))) (qa_nil)))) (qa_cons (q_tup (qa_cons (q_cat (qv 9) (q_str)) (qa_cons (q_tup (qa_cons (q_int) (qa_cons (q_int) (qa_nil)))) (qa_nil)))) (qa_cons (q_tup (qa_cons (q_cat (qv 9) (q_str)) (qa_cons (q_tup (qa_cons (q_int) (qa_cons (q_int) (qa_nil)))) (qa_nil)))) (qa_cons (q_tup (qa_cons (q_cat (qv 9) (q_str)) (qa_cons (q_tup (qa_cons (q_int) (qa_cons (q_int) (qa_nil)))) (qa_nil)))) (qa_cons (q_tup (qa_cons (q_cat (qv 9) (q_str)) (qa_cons (q_tup (qa_cons (q_int) (qa_cons (q_int) (qa_nil)))) (qa_nil)))) (qa_nil)))))))))
  refine qss_cons ?_ ?_
  · exact qs_set (i := 10) nd rfl (by first | exact Or.inl rfl | exact Or.inr rfl) (q_cat (qv 10) (q_lst (qa_cons (q_tup (qa_cons (q_cat (qv 9) (q_str)) (qa_cons (q_tup (qa_cons (q_int) (qa_cons (q_int) (qa_nil)))) (qa_nil)))) (qa_cons (q_tup (qa_cons (q_cat (qv 9) (q_str)) (qa_cons (q_tup (qa_cons (q_int) (qa_cons (q_int) (qa_nil)))) (qa_nil)))) (qa_cons (q_tup (qa_cons (q_cat (qv 9) (q_str)) (qa_cons (q_tup (qa_cons (q_int) (qa_cons (q_int) (qa_nil)))) (qa_nil)))) (qa_cons (q_tup (qa_cons (q_cat (qv 9) (q_str)) (qa_cons (q_tup (qa_cons (q_int) (qa_cons (q_int) (qa_nil)))) (qa_nil)))) (qa_nil)))))))
  refine qss_cons ?_ ?_
  · exact qs_set (i := 10) nd rfl (by first | exact Or.inl rfl | exact Or.inr rfl) (q_cat (qv 10) (q_lst (qa_cons (q_tup (qa_cons (q_cat (qv 9) (q_str)) (qa_cons (q_tup (qa_cons (q_int) (qa_cons (q_int) (qa_nil)))) (qa_nil)))) (qa_cons (q_tup (qa_cons (q_non) (qa_cons (q_tup (qa_cons (q_int) (qa_cons (q_int) (qa_nil)))) (qa_nil)))) (qa_nil)))))
  refine qss_cons ?_ ?_
  · exact qs_set (i := 10) nd rfl (by first | exact Or.inl rfl | exact Or.inr rfl) (q_cat (qv 10) (q_lst (qa_cons (q_tup (qa_cons (q_cat (qv 9) (q_str)) (qa_cons (q_tup (qa_cons (q_int) (qa_cons (q_int) (qa_nil)))) (qa_nil)))) (qa_cons (q_tup (qa_cons (q_str) (qa_cons (q_tup (qa_cons (q_int) (qa_cons (q_int) (qa_nil)))) (qa_nil)))) (qa_cons (q_tup (qa_cons (q_cat (qv 9) (q_str)) (qa_cons (q_tup (qa_cons (q_int) (qa_cons (q_int) (qa_nil)))) (qa_nil)))) (qa_cons (q_tup (qa_cons (q_cat (qv 9) (q_str)) (qa_cons (q_tup (qa_cons (q_int) (qa_cons (q_int) (qa_nil)))) (qa_nil)))) (qa_cons (q_tup (qa_cons (q_cat (qv 9) (q_str)) (qa_cons (q_tup (qa_cons (q_int) (qa_cons (q_int) (qa_nil)))) (qa_nil)))) (qa_cons (q_tup (qa_cons (q_int) (qa_cons (q_tup (qa_cons (q_int) (qa_cons (q_int) (qa_nil)))) (qa_nil)))) (qa_nil)))))))))
  refine qss_cons ?_ ?_
  · refine qs_for (tg := .tup [11, 12]) po rfl ?_ ?_ ?_
    · exact (q_seqI (qv 10))
    · exact (pg_tup rfl (pgs_cons (pg_name (i := 11) nd rfl (by first | exact Or.inl rfl | exact Or.inr rfl)) (pgs_cons (pg_name (i := 12) nd rfl (by first | exact Or.inl rfl | exact Or.inr rfl)) (pgs_nil))))
    · refine qss_one ?_
      refine qs_if ?_ ?_ ?_
      · exact (qt_ne hu (q_callG A.o15 hgd hr rfl T.m15 T.k15 T.b15 hx (qa_cons (qv 11) (qa_nil))) (qv 12))
      · refine qss_one ?_
        exact qs_ret (q_bl)
      · exact qss_nil
  refine qss_one ?_
  exact qs_ret (q_bl)
theorem allOk (T : Txt P K mg cl) (TB : Tabs K mg base T pt) : ∀ k, AllOk P w K mg base T pt k
  | 0 => ⟨FnG.bot, FnG.bot, FnG.bot, FnG.bot, FnG.bot, FnG.bot, FnG.bot, FnG.bot, FnG.bot, FnG.bot, FnG.bot, FnG.bot, FnG.bot, FnG.bot, FnG.bot, FnG.bot, FnG.bot⟩
  | 1 => have A := allOk T TB 0; ⟨ok_net_text TB A, ok_line_of TB A, FnG.bot, ok_WordsOfLine_init TB A, FnG.bot, ok_WordsOfLine_read_inputs TB A, ok_WordsOfLine_read_gate TB A, FnG.bot, FnG.bot, ok_WordsOfLine_number_at TB A, FnG.bot, ok__law_cell_at TB A, ok__law_draw TB A, ok__law_number TB A, ok__law_next TB A, ok__law_place TB A, ok_law TB A⟩
  | 2 => have A := allOk T TB 1; ⟨ok_net_text TB A, ok_line_of TB A, FnG.bot, ok_WordsOfLine_init TB A, FnG.bot, ok_WordsOfLine_read_inputs TB A, ok_WordsOfLine_read_gate TB A, ok_WordsOfLine_gate_words TB (allOk T TB 0), ok_WordsOfLine_numbers_from TB (allOk T TB 0), ok_WordsOfLine_number_at TB A, ok_is_figures TB (allOk T TB 0), ok__law_cell_at TB A, ok__law_draw TB A, ok__law_number TB A, ok__law_next TB A, ok__law_place TB A, ok_law TB A⟩
  | 3 => have A := allOk T TB 2; ⟨ok_net_text TB A, ok_line_of TB A, FnG.bot, ok_WordsOfLine_init TB A, FnG.bot, ok_WordsOfLine_read_inputs TB A, ok_WordsOfLine_read_gate TB A, ok_WordsOfLine_gate_words TB (allOk T TB 1), ok_WordsOfLine_numbers_from TB (allOk T TB 1), ok_WordsOfLine_number_at TB A, ok_is_figures TB (allOk T TB 1), ok__law_cell_at TB A, ok__law_draw TB A, ok__law_number TB A, ok__law_next TB A, ok__law_place TB A, ok_law TB A⟩
  | k + 4 => have A := allOk T TB (k + 3); have B := allOk T TB k; ⟨ok_net_text TB A, ok_line_of TB A, ok_net_by TB (allOk T TB (k + 2)), ok_WordsOfLine_init TB A, ok_WordsOfLine_wrong TB (allOk T TB (k + 2)), ok_WordsOfLine_read_inputs TB A, ok_WordsOfLine_read_gate TB A, ok_WordsOfLine_gate_words TB (allOk T TB (k + 2)), ok_WordsOfLine_numbers_from TB (allOk T TB (k + 2)), ok_WordsOfLine_number_at TB A, ok_is_figures TB (allOk T TB (k + 2)), ok__law_cell_at TB A, ok__law_draw TB A, ok__law_number TB A, ok__law_next TB A, ok__law_place TB A, ok_law TB A⟩
end
theorem ends {tsl : List Addr} {l : PySem.W.OpenLaw} {w : World} {K : PySem.W.Frag} {h : Heap} {mg : Str → Option Value} {fa : Addr} {oc0 kV0 dc0 pm0 cd0 ct0 oc1 kV1 dc1 pm1 cd1 ct1 oc2 kV2 dc2 pm2 cd2 ct2 oc3 kV3 dc3 pm3 cd3 ct3 oc4 kV4 dc4 pm4 ct4 oc5 kV5 dc5 pm5 cd5 ct5 oc6 kV6 dc6 pm6 cd6 ct6 oc7 kV7 dc7 pm7 ct7 oc8 kV8 dc8 pm8 ct8 oc9 kV9 dc9 pm9 cd9 ct9 oc10 kV10 dc10 pm10 ct10 oc11 kV11 dc11 pm11 cd11 ct11 oc12 kV12 dc12 pm12 cd12 ct12 oc13 kV13 dc13 pm13 cd13 ct13 oc14 kV14 dc14 pm14 cd14 ct14 oc15 kV15 dc15 pm15 cd15 ct15 oc16 kV16 dc16 pm16 cd16 ct16 : Value} {od0 an0 od1 an1 od2 an2 od3 an3 od4 an4 od5 an5 od6 an6 od7 an7 od8 an8 od9 an9 od10 an10 od11 an11 od12 an12 od13 an13 od14 an14 od15 an15 od16 an16 : Option Addr} {sl0 sl1 sl2 sl3 sl4 sl5 sl6 sl7 sl8 sl9 sl10 sl11 sl12 sl13 sl14 sl15 sl16 : Array (Option Value)} {f0 f1 f2 f3 f4 f5 f6 f7 f8 f9 f10 f11 f12 f13 f14 f15 f16 : Addr} {ca4 P4 ca7 P7 ca8 P8 ca10 P10 : Addr} {qc4 qc7 qc8 qc10 : Value} {qd4 qd7 qd8 qd10 : Option Addr} {qv4 qv7 qv8 qv10 : Array Value} {qs4 qs7 qs8 qs10 : Array (Option Value)} {C0 C1 : Addr} {xnm1 xq1 : Str} {xN1 : Addr} {xbs1 : List Value} {xsn1 : List Str} {xsub1 : List Value} {xab1 : Bool} {xcol1 : Option Bool} {xdd1 : Option Addr} {xm01 xm11 xm21 xm31 xm51 : Option Value} {xI1 xca1 xcc1 : Addr} {xoc1 xkV1 xdc1 xpm1 xct1 xccl1 xwc1 : Value} {xod1 xan1 xcdd1 xwd1 : Option Addr} {xsl1 xccs1 xws1 : Array (Option Value)} {xvs1 : Array Value} {xfile1 : Str} {xtf1 : Tok} {S1_0 : Addr} (X : K.In h) (G : h.Ns mainGlobals mg) (hfa : mg "law" = some (.ref fa))
    (a0 : PySem.W.nsIn K mainGlobals "net_text" = some (some (.ref f0)))
      (l0 : K.lookup f0 = some ⟨oc0, od0, .func (PySem.W.fnOf "net_text" "net_text" (defArgs s_net_text) (defBody s_net_text) (defScope s_net_text) .none kV0 dc0 pm0 an0 cd0 ct0), sl0⟩)
      (c0 : PySem.W.codeIn K cd0 "net_text" = true) (k0 : PySem.W.keepIn K (.ref f0) = true)
    (a1 : PySem.W.nsIn K mainGlobals "line_of" = some (some (.ref f1)))
      (l1 : K.lookup f1 = some ⟨oc1, od1, .func (PySem.W.fnOf "line_of" "line_of" (defArgs s_line_of) (defBody s_line_of) (defScope s_line_of) .none kV1 dc1 pm1 an1 cd1 ct1), sl1⟩)
      (c1 : PySem.W.codeIn K cd1 "line_of" = true) (k1 : PySem.W.keepIn K (.ref f1) = true)
    (a2 : PySem.W.nsIn K mainGlobals "net_by" = some (some (.ref f2)))
      (l2 : K.lookup f2 = some ⟨oc2, od2, .func (PySem.W.fnOf "net_by" "net_by" (defArgs s_net_by) (defBody s_net_by) (defScope s_net_by) .none kV2 dc2 pm2 an2 cd2 ct2), sl2⟩)
      (c2 : PySem.W.codeIn K cd2 "net_by" = true) (k2 : PySem.W.keepIn K (.ref f2) = true)
    (a3 : PySem.W.findIn K (.ref C0) "__init__" = some (some (.ref f3)))
      (l3 : K.lookup f3 = some ⟨oc3, od3, .func (PySem.W.fnOf "__init__" "WordsOfLine.__init__" (defArgs s_WordsOfLine_init) (defBody s_WordsOfLine_init) (defScope s_WordsOfLine_init) .none kV3 dc3 pm3 an3 cd3 ct3), sl3⟩)
      (c3 : PySem.W.codeIn K cd3 "WordsOfLine.__init__" = true) (k3 : PySem.W.keepIn K (.ref f3) = true) (i3 : PySem.W.isFn K (.ref f3) = true)
    (a4 : PySem.W.findIn K (.ref C0) "wrong" = some (some (.ref f4)))
      (l4 : K.lookup f4 = some ⟨oc4, od4, .func (PySem.W.fnOf "wrong" "WordsOfLine.wrong" (defArgs s_WordsOfLine_wrong) (defBody s_WordsOfLine_wrong) (defScope s_WordsOfLine_wrong) .none kV4 dc4 pm4 an4 (.ref ca4) ct4), sl4⟩)
      (c4 : PySem.W.codeIn K (.ref ca4) "WordsOfLine.wrong" = true) (k4 : PySem.W.keepIn K (.ref f4) = true) (i4 : PySem.W.isFn K (.ref f4) = true)
    (a5 : PySem.W.findIn K (.ref C0) "read_inputs" = some (some (.ref f5)))
      (l5 : K.lookup f5 = some ⟨oc5, od5, .func (PySem.W.fnOf "read_inputs" "WordsOfLine.read_inputs" (defArgs s_WordsOfLine_read_inputs) (defBody s_WordsOfLine_read_inputs) (defScope s_WordsOfLine_read_inputs) .none kV5 dc5 pm5 an5 cd5 ct5), sl5⟩)
      (c5 : PySem.W.codeIn K cd5 "WordsOfLine.read_inputs" = true) (k5 : PySem.W.keepIn K (.ref f5) = true) (i5 : PySem.W.isFn K (.ref f5) = true)
    (a6 : PySem.W.findIn K (.ref C0) "read_gate" = some (some (.ref f6)))
      (l6 : K.lookup f6 = some ⟨oc6, od6, .func (PySem.W.fnOf "read_gate" "WordsOfLine.read_gate" (defArgs s_WordsOfLine_read_gate) (defBody s_WordsOfLine_read_gate) (defScope s_WordsOfLine_read_gate) .none kV6 dc6 pm6 an6 cd6 ct6), sl6⟩)
      (c6 : PySem.W.codeIn K cd6 "WordsOfLine.read_gate" = true) (k6 : PySem.W.keepIn K (.ref f6) = true) (i6 : PySem.W.isFn K (.ref f6) = true)
    (a7 : PySem.W.findIn K (.ref C0) "gate_words" = some (some (.ref f7)))
      (l7 : K.lookup f7 = some ⟨oc7, od7, .func (PySem.W.fnOf "gate_words" "WordsOfLine.gate_words" (defArgs s_WordsOfLine_gate_words) (defBody s_WordsOfLine_gate_words) (defScope s_WordsOfLine_gate_words) .none kV7 dc7 pm7 an7 (.ref ca7) ct7), sl7⟩)
      (c7 : PySem.W.codeIn K (.ref ca7) "WordsOfLine.gate_words" = true) (k7 : PySem.W.keepIn K (.ref f7) = true) (i7 : PySem.W.isFn K (.ref f7) = true)
    (a8 : PySem.W.findIn K (.ref C0) "numbers_from" = some (some (.ref f8)))
      (l8 : K.lookup f8 = some ⟨oc8, od8, .func (PySem.W.fnOf "numbers_from" "WordsOfLine.numbers_from" (defArgs s_WordsOfLine_numbers_from) (defBody s_WordsOfLine_numbers_from) (defScope s_WordsOfLine_numbers_from) .none kV8 dc8 pm8 an8 (.ref ca8) ct8), sl8⟩)
      (c8 : PySem.W.codeIn K (.ref ca8) "WordsOfLine.numbers_from" = true) (k8 : PySem.W.keepIn K (.ref f8) = true) (i8 : PySem.W.isFn K (.ref f8) = true)
    (a9 : PySem.W.findIn K (.ref C0) "number_at" = some (some (.ref f9)))
      (l9 : K.lookup f9 = some ⟨oc9, od9, .func (PySem.W.fnOf "number_at" "WordsOfLine.number_at" (defArgs s_WordsOfLine_number_at) (defBody s_WordsOfLine_number_at) (defScope s_WordsOfLine_number_at) .none kV9 dc9 pm9 an9 cd9 ct9), sl9⟩)
      (c9 : PySem.W.codeIn K cd9 "WordsOfLine.number_at" = true) (k9 : PySem.W.keepIn K (.ref f9) = true) (i9 : PySem.W.isFn K (.ref f9) = true)
    (a10 : PySem.W.nsIn K mainGlobals "is_figures" = some (some (.ref f10)))
      (l10 : K.lookup f10 = some ⟨oc10, od10, .func (PySem.W.fnOf "is_figures" "is_figures" (defArgs s_is_figures) (defBody s_is_figures) (defScope s_is_figures) .none kV10 dc10 pm10 an10 (.ref ca10) ct10), sl10⟩)
      (c10 : PySem.W.codeIn K (.ref ca10) "is_figures" = true) (k10 : PySem.W.keepIn K (.ref f10) = true)
    (a11 : PySem.W.nsIn K mainGlobals "_law_cell_at" = some (some (.ref f11)))
      (l11 : K.lookup f11 = some ⟨oc11, od11, .func (PySem.W.fnOf "_law_cell_at" "_law_cell_at" (defArgs s__law_cell_at) (defBody s__law_cell_at) (defScope s__law_cell_at) .none kV11 dc11 pm11 an11 cd11 ct11), sl11⟩)
      (c11 : PySem.W.codeIn K cd11 "_law_cell_at" = true) (k11 : PySem.W.keepIn K (.ref f11) = true)
    (a12 : PySem.W.nsIn K mainGlobals "_law_draw" = some (some (.ref f12)))
      (l12 : K.lookup f12 = some ⟨oc12, od12, .func (PySem.W.fnOf "_law_draw" "_law_draw" (defArgs s__law_draw) (defBody s__law_draw) (defScope s__law_draw) .none kV12 dc12 pm12 an12 cd12 ct12), sl12⟩)
      (c12 : PySem.W.codeIn K cd12 "_law_draw" = true) (k12 : PySem.W.keepIn K (.ref f12) = true)
    (a13 : PySem.W.nsIn K mainGlobals "_law_number" = some (some (.ref f13)))
      (l13 : K.lookup f13 = some ⟨oc13, od13, .func (PySem.W.fnOf "_law_number" "_law_number" (defArgs s__law_number) (defBody s__law_number) (defScope s__law_number) .none kV13 dc13 pm13 an13 cd13 ct13), sl13⟩)
      (c13 : PySem.W.codeIn K cd13 "_law_number" = true) (k13 : PySem.W.keepIn K (.ref f13) = true)
    (a14 : PySem.W.nsIn K mainGlobals "_law_next" = some (some (.ref f14)))
      (l14 : K.lookup f14 = some ⟨oc14, od14, .func (PySem.W.fnOf "_law_next" "_law_next" (defArgs s__law_next) (defBody s__law_next) (defScope s__law_next) .none kV14 dc14 pm14 an14 cd14 ct14), sl14⟩)
      (c14 : PySem.W.codeIn K cd14 "_law_next" = true) (k14 : PySem.W.keepIn K (.ref f14) = true)
    (a15 : PySem.W.nsIn K mainGlobals "_law_place" = some (some (.ref f15)))
      (l15 : K.lookup f15 = some ⟨oc15, od15, .func (PySem.W.fnOf "_law_place" "_law_place" (defArgs s__law_place) (defBody s__law_place) (defScope s__law_place) .none kV15 dc15 pm15 an15 cd15 ct15), sl15⟩)
      (c15 : PySem.W.codeIn K cd15 "_law_place" = true) (k15 : PySem.W.keepIn K (.ref f15) = true)
    (a16 : PySem.W.nsIn K mainGlobals "law" = some (some (.ref f16)))
      (l16 : K.lookup f16 = some ⟨oc16, od16, .func (PySem.W.fnOf "law" "law" (defArgs s_law) (defBody s_law) (defScope s_law) .none kV16 dc16 pm16 an16 cd16 ct16), sl16⟩)
      (c16 : PySem.W.codeIn K cd16 "law" = true) (k16 : PySem.W.keepIn K (.ref f16) = true)
    (ug0 : PySem.W.nsIn K mainGlobals "WordsOfLine" = some (some (.ref C0))) (pg0 : PySem.W.plainGet K C0 Str.empty = true) (hd0 : PySem.W.hasDictIn K C0 = true) (pv0 : PySem.W.plainOver K C0 = true) (sa0 : PySem.W.findIn K (.ref C0) "__setattr__" = some (some (.builtin "object.__setattr__"))) (mk0 : PySem.W.makesIn K C0 = true) (kc0 : PySem.W.keepIn K (.ref C0) = true)
    (n0_join : PySem.W.findIn K (.ref C0) "join" = some none)
    (n0_line : PySem.W.findIn K (.ref C0) "line" = some none)
    (n0_number : PySem.W.findIn K (.ref C0) "number" = some none)
    (n0_split : PySem.W.findIn K (.ref C0) "split" = some none)
    (n0_words : PySem.W.findIn K (.ref C0) "words" = some none)
    (ug1 : PySem.W.nsIn K mainGlobals "BadText" = some (some (.ref C1)))
    (xL1 : K.lookup C1 = some (excClassObj xnm1 xq1 C1 xN1 xbs1 [.ref S1_0, .type "Exception", .type "BaseException", .type "object"] true xsn1 xsub1 xab1 xcol1 xdd1 xm01 xm11 xm21 xm31 xm51 "Exception.__new__"))
    (xsa1 : PySem.W.findIn K (.ref C1) "__setattr__" = some (some (.builtin "object.__setattr__"))) (xsu1 : PySem.W.subIn K (.ref C1) (.type "BaseException") = some true) (xse1 : PySem.W.subIn K (.ref C1) (.type "Exception") = some true) (xty1 : PySem.W.typeIn K (.ref C1) = some (.type "type")) (xkp1 : PySem.W.keepIn K (.ref C1) = true) (xov1 : PySem.W.excOver K C1 exMro = true)
    (xi1 : PySem.W.findIn K (.ref C1) "__init__" = some (some (.ref xI1))) (xt1 : PySem.W.typeIn K (.ref xI1) = some (.type "function"))
    (xl1 : K.lookup xI1 = some ⟨xoc1, xod1, .func (PySem.W.ksFn "__init__" "BadText.__init__" (defArgs e_BadText) (defBody e_BadText) (defScope e_BadText) .none xkV1 xdc1 xpm1 xan1 (.ref xca1) xct1 xcc1), xsl1⟩)
    (xc1 : PySem.W.codeIn K (.ref xca1) "BadText.__init__" = true)
    (xy1 : K.lookup xca1 = some ⟨xccl1, xcdd1, .fields xvs1, xccs1⟩) (xv1 : xvs1[2]? = some (.str xfile1 xtf1)) (xz1 : ((l.prog.main.file : Str) == xfile1) = true)
    (xw1 : K.lookup xcc1 = some ⟨xwc1, xwd1, .cell (some (.ref C1)), xws1⟩) (xo1 : PySem.W.mroIn K C1 (.ref C1) = some true) (xnx1 : PySem.W.ks_superIn K C1 C1 "__init__" = some (some (.builtin "Exception.__init__")))
    (xga1 : PySem.W.findIn K (.ref C1) "__getattribute__" = some (some (.builtin "BaseException.__getattribute__"))) (xgg1 : PySem.W.findIn K (.ref C1) "__getattr__" = some none) (xhd1 : PySem.W.hasDictIn K C1 = true) (xe1 : PySem.W.exmOne K (.ref C1) (.ref C1) = some true)
    (xns1 : PySem.W.subIn K (.ref C1) (.type "StopIteration") = some false)
    (xn1_line : PySem.W.findIn K (.ref C1) "line" = some none)
    (xn1_column : PySem.W.findIn K (.ref C1) "column" = some none)
    (z_super : PySem.W.nsIn K mainGlobals "super" = some none) (xtop : (l.prog.main.scope.names.lookup ("super" : Str)).isSome = false) (xany : PySem.W.nsIn K cStatics "thirdparty.any" = some none)
    (a_FIGURES : ∃ t, PySem.W.nsIn K mainGlobals "FIGURES" = some (some (.str "0123456789" t)))
    (a_MOST_FIGURES : ∃ t, PySem.W.nsIn K mainGlobals "MOST_FIGURES" = some (some (.int 6 t)))
    (z_all : PySem.W.nsIn K mainGlobals "all" = some none)
    (z_enumerate : PySem.W.nsIn K mainGlobals "enumerate" = some none)
    (z_int : PySem.W.nsIn K mainGlobals "int" = some none)
    (z_isinstance : PySem.W.nsIn K mainGlobals "isinstance" = some none)
    (z_len : PySem.W.nsIn K mainGlobals "len" = some none)
    (z_min : PySem.W.nsIn K mainGlobals "min" = some none)
    (z_range : PySem.W.nsIn K mainGlobals "range" = some none)
    (z_str : PySem.W.nsIn K mainGlobals "str" = some none)
    (z_sum : PySem.W.nsIn K mainGlobals "sum" = some none)
    (z_tuple : PySem.W.nsIn K mainGlobals "tuple" = some none)
    (q4 : K.lookup ca4 = some ⟨qc4, qd4, .fields qv4, qs4⟩) (r4 : qv4[11]? = some (.ref P4)) (n4 : K.lookup P4 = none) (h4 : PySem.W.codeHdIn K ca4 P4 = true) (m4 : P4 ∈ tsl)
    (q7 : K.lookup ca7 = some ⟨qc7, qd7, .fields qv7, qs7⟩) (r7 : qv7[11]? = some (.ref P7)) (n7 : K.lookup P7 = none) (h7 : PySem.W.codeHdIn K ca7 P7 = true) (m7 : P7 ∈ tsl)
    (q8 : K.lookup ca8 = some ⟨qc8, qd8, .fields qv8, qs8⟩) (r8 : qv8[11]? = some (.ref P8)) (n8 : K.lookup P8 = none) (h8 : PySem.W.codeHdIn K ca8 P8 = true) (m8 : P8 ∈ tsl)
    (q10 : K.lookup ca10 = some ⟨qc10, qd10, .fields qv10, qs10⟩) (r10 : qv10[11]? = some (.ref P10)) (n10 : K.lookup P10 = none) (h10 : PySem.W.codeHdIn K ca10 P10 = true) (m10 : P10 ∈ tsl)
    (nP : [P4, P7, P8, P10].Nodup)
    : ∃ (fd : FuncData) (cs : List (Addr × Addr)) (cl : Nat → Addr), cs.length = 4 ∧ (cs.map (·.2)).Nodup ∧ (∀ p ∈ cs, TabM K tsl p) ∧ (∀ (s : Shared) (u : Value), BindsTo s fd ⟨[u], []⟩ [("script", u)]) ∧ ∀ base : Heap, K.In base → base.Ns mainGlobals mg → (∀ p ∈ cs, GxR.TabB base mg p.1 p.2) → FnG l.prog w K mg base lev fa fd ["script"] (spOf K (Fn cl (fun i => ((cs[i]?).map (·.2)).getD 0) lev 16)) := by
  have e := hfa.symm.trans (PySem.W.mg_of X G a16)
  cases e
  have F0 := fun_mk (st := s_net_text) l0 c0 k0
  have b0 := F0.binds (ps := ["net"]) fun _ _ _ _ _ _ us hl => match us, hl with | [_], _ => rfl
  have F1 := fun_mk (st := s_line_of) l1 c1 k1
  have b1 := F1.binds (ps := ["words"]) fun _ _ _ _ _ _ us hl => match us, hl with | [_], _ => rfl
  have F2 := fun_mk (st := s_net_by) l2 c2 k2
  have b2 := F2.binds (ps := ["text"]) fun _ _ _ _ _ _ us hl => match us, hl with | [_], _ => rfl
  have F3 := fun_mk (st := s_WordsOfLine_init) l3 c3 k3
  have b3 := F3.binds (ps := ["self", "line", "number"]) fun _ _ _ _ _ _ us hl => match us, hl with | [_, _, _], _ => rfl
  have F4 := fun_mk (st := s_WordsOfLine_wrong) l4 c4 k4
  have b4 := F4.binds (ps := ["self", "at"]) fun _ _ _ _ _ _ us hl => match us, hl with | [_, _], _ => rfl
  have F5 := fun_mk (st := s_WordsOfLine_read_inputs) l5 c5 k5
  have b5 := F5.binds (ps := ["self"]) fun _ _ _ _ _ _ us hl => match us, hl with | [_], _ => rfl
  have F6 := fun_mk (st := s_WordsOfLine_read_gate) l6 c6 k6
  have b6 := F6.binds (ps := ["self"]) fun _ _ _ _ _ _ us hl => match us, hl with | [_], _ => rfl
  have F7 := fun_mk (st := s_WordsOfLine_gate_words) l7 c7 k7
  have b7 := F7.binds (ps := ["self"]) fun _ _ _ _ _ _ us hl => match us, hl with | [_], _ => rfl
  have F8 := fun_mk (st := s_WordsOfLine_numbers_from) l8 c8 k8
  have b8 := F8.binds (ps := ["self", "first"]) fun _ _ _ _ _ _ us hl => match us, hl with | [_, _], _ => rfl
  have F9 := fun_mk (st := s_WordsOfLine_number_at) l9 c9 k9
  have b9 := F9.binds (ps := ["self", "at"]) fun _ _ _ _ _ _ us hl => match us, hl with | [_, _], _ => rfl
  have F10 := fun_mk (st := s_is_figures) l10 c10 k10
  have b10 := F10.binds (ps := ["word"]) fun _ _ _ _ _ _ us hl => match us, hl with | [_], _ => rfl
  have F11 := fun_mk (st := s__law_cell_at) l11 c11 k11
  have b11 := F11.binds (ps := ["script", "k"]) fun _ _ _ _ _ _ us hl => match us, hl with | [_, _], _ => rfl
  have F12 := fun_mk (st := s__law_draw) l12 c12 k12
  have b12 := F12.binds (ps := ["cell", "k", "bound"]) fun _ _ _ _ _ _ us hl => match us, hl with | [_, _, _], _ => rfl
  have F13 := fun_mk (st := s__law_number) l13 c13 k13
  have b13 := F13.binds (ps := ["cell", "k", "bound"]) fun _ _ _ _ _ _ us hl => match us, hl with | [_, _, _], _ => rfl
  have F14 := fun_mk (st := s__law_next) l14 c14 k14
  have b14 := F14.binds (ps := ["draw", "bound"]) fun _ _ _ _ _ _ us hl => match us, hl with | [_, _], _ => rfl
  have F15 := fun_mk (st := s__law_place) l15 c15 k15
  have b15 := F15.binds (ps := ["text"]) fun _ _ _ _ _ _ us hl => match us, hl with | [_], _ => rfl
  have F16 := fun_mk (st := s_law) l16 c16 k16
  have b16 := F16.binds (ps := ["script"]) fun _ _ _ _ _ _ us hl => match us, hl with | [_], _ => rfl
  let T : Txt l.prog K mg (fun i => ([C0, C1][i]?).getD 0) :=
    { f0 := f0, fd0 := _, F0 := F0, b0 := b0, m0 := PySem.W.mg_of X G a0, k0 := k0,
      f1 := f1, fd1 := _, F1 := F1, b1 := b1, m1 := PySem.W.mg_of X G a1, k1 := k1,
      f2 := f2, fd2 := _, F2 := F2, b2 := b2, m2 := PySem.W.mg_of X G a2, k2 := k2,
      f3 := f3, fd3 := _, F3 := F3, b3 := b3, me0___init__ := ⟨a3, i3, k3⟩,
      f4 := f4, fd4 := _, F4 := F4, b4 := b4, me0_wrong := ⟨a4, i4, k4⟩,
      f5 := f5, fd5 := _, F5 := F5, b5 := b5, me0_read_inputs := ⟨a5, i5, k5⟩,
      f6 := f6, fd6 := _, F6 := F6, b6 := b6, me0_read_gate := ⟨a6, i6, k6⟩,
      f7 := f7, fd7 := _, F7 := F7, b7 := b7, me0_gate_words := ⟨a7, i7, k7⟩,
      f8 := f8, fd8 := _, F8 := F8, b8 := b8, me0_numbers_from := ⟨a8, i8, k8⟩,
      f9 := f9, fd9 := _, F9 := F9, b9 := b9, me0_number_at := ⟨a9, i9, k9⟩,
      f10 := f10, fd10 := _, F10 := F10, b10 := b10, m10 := PySem.W.mg_of X G a10, k10 := k10,
      f11 := f11, fd11 := _, F11 := F11, b11 := b11, m11 := PySem.W.mg_of X G a11, k11 := k11,
      f12 := f12, fd12 := _, F12 := F12, b12 := b12, m12 := PySem.W.mg_of X G a12, k12 := k12,
      f13 := f13, fd13 := _, F13 := F13, b13 := b13, m13 := PySem.W.mg_of X G a13, k13 := k13,
      f14 := f14, fd14 := _, F14 := F14, b14 := b14, m14 := PySem.W.mg_of X G a14, k14 := k14,
      f15 := f15, fd15 := _, F15 := F15, b15 := b15, m15 := PySem.W.mg_of X G a15, k15 := k15,
      f16 := fa, fd16 := _, F16 := F16, b16 := b16, m16 := PySem.W.mg_of X G a16, k16 := k16,
      ca4 := ca4, cd4 := rfl,
      ca7 := ca7, cd7 := rfl,
      ca8 := ca8, cd8 := rfl,
      ca10 := ca10, cd10 := rfl,
      mg0 := PySem.W.mg_of X G ug0, cls0 := ⟨pg0, hd0, pv0, sa0⟩, mk0 := ⟨mk0, a3, i3, kc0⟩,
      n0_join := n0_join,
      n0_line := n0_line,
      n0_number := n0_number,
      n0_split := n0_split,
      n0_words := n0_words,
      mg1 := PySem.W.mg_of X G ug1, ox1 := ⟨⟨xnm1, xq1, xN1, xbs1, _, xsn1, xsub1, xab1, xcol1, xdd1, xm01, xm11, xm21, xm31, xm51, xL1, rfl⟩, xsa1, xsu1, xse1, xty1, xkp1, xov1⟩,
      xI1 := xI1, xcc1 := xcc1, xca1 := xca1, xkV1 := xkV1, xdc1 := xdc1, xpm1 := xpm1, xct1 := xct1, xan1 := xan1, xi1 := xi1, xt1 := xt1, xc1 := xc1, xe1 := xe1,
      xo1 := ⟨⟨_, _, _, xl1⟩, ⟨_, rfl, rfl⟩, ⟨_, _, _, _, _, _, xy1, xv1, xz1⟩, ⟨_, _, _, xw1⟩, xo1, PySem.W.mg_none_of X G z_super, xtop, xany, xnx1⟩,
      xf1 := ⟨xga1, xgg1, xsu1, xhd1⟩,
      xns1 := xns1,
      xn1_line := xn1_line,
      xn1_column := xn1_column,
      v_FIGURES := .str "0123456789", c_FIGURES := a_FIGURES.elim fun t h => ⟨_, PySem.W.mg_of X G h, ⟨t, rfl⟩⟩, d_FIGURES := .str _,
      v_MOST_FIGURES := .int 6, c_MOST_FIGURES := a_MOST_FIGURES.elim fun t h => ⟨_, PySem.W.mg_of X G h, ⟨t, rfl⟩⟩, d_MOST_FIGURES := .int _,
      b_all := PySem.W.mg_none_of X G z_all,
      b_enumerate := PySem.W.mg_none_of X G z_enumerate,
      b_int := PySem.W.mg_none_of X G z_int,
      b_isinstance := PySem.W.mg_none_of X G z_isinstance,
      b_len := PySem.W.mg_none_of X G z_len,
      b_min := PySem.W.mg_none_of X G z_min,
      b_range := PySem.W.mg_none_of X G z_range,
      b_str := PySem.W.mg_none_of X G z_str,
      b_sum := PySem.W.mg_none_of X G z_sum,
      b_tuple := PySem.W.mg_none_of X G z_tuple }
  exact ⟨_, [(ca4, P4), (ca7, P7), (ca8, P8), (ca10, P10)], (fun i => ([C0, C1][i]?).getD 0), rfl, nP, fun p hp => by
    simp only [List.mem_cons, List.not_mem_nil, or_false] at hp
    rcases hp with rfl | rfl | rfl | rfl
    · exact ⟨h4, n4, m4⟩
    · exact ⟨h7, n7, m7⟩
    · exact ⟨h8, n8, m8⟩
    · exact ⟨h10, n10, m10⟩, fun s v => .of_eq rfl, fun base _ _ hT => (allOk T ⟨(fun z => ⟨z.code, z.bm, z.gP⟩) (hT (ca4, P4) (by simp)), (fun z => ⟨z.code, z.bm, z.gP⟩) (hT (ca7, P7) (by simp)), (fun z => ⟨z.code, z.bm, z.gP⟩) (hT (ca8, P8) (by simp)), (fun z => ⟨z.code, z.bm, z.gP⟩) (hT (ca10, P10) (by simp))⟩ lev).o16⟩
end Pf
namespace Pf
open PySem PySem.Spec PyProof.Rows L2 By
variable {cl pt : Nat → Addr}
theorem okRg_ok {lo hi : Int} (a : -1000000 ≤ lo) (b : lo ≤ 1000000) (c : -1000000 ≤ hi) (d : hi ≤ 1000000) : okRg lo hi = true := decide_eq_true ⟨a, b, c, d⟩
theorem getI_ints {S : List Int} {i : Int} (h0 : 0 ≤ i) (h : i < S.length) : ∃ c, getI (S.map PyData.int) i = some (.int c) := by
  rw [getI_pos h0, List.getElem?_map]
  exact ⟨S[i.toNat]'(by omega), by rw [List.getElem?_eq_getElem (by omega)]; rfl⟩
theorem cell_at (k : Nat) (S : List Int) (i : Int) (h0 : 0 ≤ i) (M : Mem) : ∃ c, Fn cl pt (k + 1) 11 [.d (.list (S.map .int)), .d (.int i)] M = .ok (.d (.int c)) M := by
  by_cases h : i < S.length
  · obtain ⟨c, hc⟩ := getI_ints h0 h
    refine ⟨c, ?_⟩
    rw [fn__law_cell_at]
    refine def_of rfl (w := .d (.int c)) (M' := M) ?_ (finD_d _ _)
    show den__law_cell_at cl pt (Fn cl pt k) [some (.d (.list (S.map .int))), some (.d (.int i))] M = _
    unfold den__law_cell_at
    simp only [x_bind, x_seq, x_nx, x_rt, x_set, x_st0, x_stS, x_v0, x_vS, x_c, x_bin, x_un, x_fl, x_nil, x_cons, x_ret, x_skip, x_expr, x_ifs, x_ifT, x_ifF, x_b, x_kb, x_tup, x_tup2, x_lst, x_lst0, x_lst2, x_lst3, x_lst4, x_lstM, x_lstM0, x_seti, x_rg1, x_krg1, x_rg2, x_krg2, x_rngi, x_lrg, x_seqi, x_ksl, x_for, x_kfor, x_part, x_kpart, x_nopart, x_sl, x_bm, x_aug, x_kaug, x_g0, x_gS, x_lcw, x_lc, x_add, x_sub, x_and2, x_or2, x_xor2, x_lt, x_le, x_gt, x_ge, x_int, x_neg, x_cat, x_lenL, x_lenT, x_or, x_orT, x_orF, x_and, x_andT, x_andF, x_isn, x_isnN, x_isnI, x_insN, x_insI, x_yes, x_not, x_tru, x_andv, x_andvT, x_andvF, x_revi, x_krl, x_revr, x_enum, x_kel, x_ket, x_lcm, x_augi, x_fnot, x_inv, x_tuL, x_slT, x_slL, x_eqS, x_neS, x_eqI, x_neB, x_inS2, x_while, x_if, x_ieT, x_ieF, x_tup1, x_tup3, x_lst1, x_kst, eq_no, eq_em, x_word, List.length_map, x_dec h, x_ixL hc]
  · refine ⟨0, ?_⟩
    rw [fn__law_cell_at]
    refine def_of rfl (w := .d (.int 0)) (M' := M) ?_ (finD_d _ _)
    show den__law_cell_at cl pt (Fn cl pt k) [some (.d (.list (S.map .int))), some (.d (.int i))] M = _
    unfold den__law_cell_at
    simp only [x_bind, x_seq, x_nx, x_rt, x_set, x_st0, x_stS, x_v0, x_vS, x_c, x_bin, x_un, x_fl, x_nil, x_cons, x_ret, x_skip, x_expr, x_ifs, x_ifT, x_ifF, x_b, x_kb, x_tup, x_tup2, x_lst, x_lst0, x_lst2, x_lst3, x_lst4, x_lstM, x_lstM0, x_seti, x_rg1, x_krg1, x_rg2, x_krg2, x_rngi, x_lrg, x_seqi, x_ksl, x_for, x_kfor, x_part, x_kpart, x_nopart, x_sl, x_bm, x_aug, x_kaug, x_g0, x_gS, x_lcw, x_lc, x_add, x_sub, x_and2, x_or2, x_xor2, x_lt, x_le, x_gt, x_ge, x_int, x_neg, x_cat, x_lenL, x_lenT, x_or, x_orT, x_orF, x_and, x_andT, x_andF, x_isn, x_isnN, x_isnI, x_insN, x_insI, x_yes, x_not, x_tru, x_andv, x_andvT, x_andvF, x_revi, x_krl, x_revr, x_enum, x_kel, x_ket, x_lcm, x_augi, x_fnot, x_inv, x_tuL, x_slT, x_slL, x_eqS, x_neS, x_eqI, x_neB, x_inS2, x_while, x_if, x_ieT, x_ieF, x_tup1, x_tup3, x_lst1, x_kst, eq_no, eq_em, x_word, List.length_map, x_decF h]
abbrev primes : List Int := [1000003, 1000033, 1000037, 1000039, 1000081, 1000099, 1000117, 1000121, 1000133, 1000151, 1000159, 1000171, 1000183, 1000187, 1000193, 1000199]
theorem prime_at {i : Int} (h0 : 0 ≤ i) (h : i < 16) : ∃ p, 0 < p ∧ getI (primes.map PyData.int) i = some (.int p) := by
  obtain ⟨n, rfl⟩ := Int.eq_ofNat_of_zero_le h0
  have hn : n < 16 := by omega
  rw [getI_nat, List.getElem?_map, List.getElem?_eq_getElem (by exact hn)]
  refine ⟨_, ?_, rfl⟩
  have : ∀ p ∈ primes, 0 < p := by decide
  exact this _ (List.getElem_mem _)
theorem lt1000 {n : Nat} (h : n < 10 ^ 90) : n < 2 ^ 1000 := Nat.lt_trans h (by decide +kernel)
theorem i1000 {i : Int} (a : -1000000000000 < i) (b : i < 1000000000000) : i.natAbs < 2 ^ 1000 := lt1000 (Nat.lt_trans (show i.natAbs < 1000000000000 by omega) (by decide +kernel))
theorem law_draw (k : Nat) (c j b : Int) (hc : c.natAbs < 10 ^ 90) (hj : j.natAbs < 10 ^ 90) (hb : 0 < b) (M : Mem) : ∃ v, 0 ≤ v ∧ v < b ∧ Fn cl pt (k + 1) 12 [.d (.int c), .d (.int j), .d (.int b)] M = .ok (.d (.int v)) M := by
  obtain ⟨p, hp, hg⟩ := prime_at (Int.emod_nonneg j (by decide : (16 : Int) ≠ 0)) (Int.emod_lt_of_pos j (by decide))
  have c9 := lt1000 hc
  have j9 := lt1000 hj
  refine ⟨(c * 48271 + j * 69621) % p % b, Int.emod_nonneg _ (by omega), Int.emod_lt_of_pos _ hb, ?_⟩
  rw [fn__law_draw]
  refine def_of rfl (w := .d (.int ((c * 48271 + j * 69621) % p % b))) (M' := M) ?_ (finD_d _ _)
  show den__law_draw cl pt (Fn cl pt k) [some (.d (.int c)), some (.d (.int j)), some (.d (.int b)), none] M = _
  unfold den__law_draw
  simp only [x_bind, x_seq, x_nx, x_rt, x_set, x_st0, x_stS, x_v0, x_vS, x_c, x_bin, x_un, x_fl, x_nil, x_cons, x_ret, x_skip, x_expr, x_ifs, x_ifT, x_ifF, x_b, x_kb, x_tup, x_tup2, x_lst, x_lst0, x_lst2, x_lst3, x_lst4, x_lstM, x_lstM0, x_seti, x_rg1, x_krg1, x_rg2, x_krg2, x_rngi, x_lrg, x_seqi, x_ksl, x_for, x_kfor, x_part, x_kpart, x_nopart, x_sl, x_bm, x_aug, x_kaug, x_g0, x_gS, x_lcw, x_lc, x_add, x_sub, x_and2, x_or2, x_xor2, x_lt, x_le, x_gt, x_ge, x_int, x_neg, x_cat, x_lenL, x_lenT, x_or, x_orT, x_orF, x_and, x_andT, x_andF, x_isn, x_isnN, x_isnI, x_insN, x_insI, x_yes, x_not, x_tru, x_andv, x_andvT, x_andvF, x_revi, x_krl, x_revr, x_enum, x_kel, x_ket, x_lcm, x_augi, x_fnot, x_inv, x_tuL, x_slT, x_slL, x_eqS, x_neS, x_eqI, x_neB, x_inS2, x_while, x_if, x_ieT, x_ieF, x_tup1, x_tup3, x_lst1, x_kst, eq_no, eq_em, x_word, fMul_ok c9 (i1000 (i := 48271) (by decide) (by decide)), fMul_ok j9 (i1000 (i := 69621) (by decide) (by decide)), fMod_ok (show (0 : Int) < 16 by decide), fMod_ok hp, fMod_ok hb]
  rw [x_ktup (ds := primes.map PyData.int) rfl rfl]
  simp only [x_bind, x_seq, x_nx, x_rt, x_set, x_st0, x_stS, x_v0, x_vS, x_c, x_bin, x_un, x_fl, x_nil, x_cons, x_ret, x_skip, x_expr, x_ifs, x_ifT, x_ifF, x_b, x_kb, x_tup, x_tup2, x_lst, x_lst0, x_lst2, x_lst3, x_lst4, x_lstM, x_lstM0, x_seti, x_rg1, x_krg1, x_rg2, x_krg2, x_rngi, x_lrg, x_seqi, x_ksl, x_for, x_kfor, x_part, x_kpart, x_nopart, x_sl, x_bm, x_aug, x_kaug, x_g0, x_gS, x_lcw, x_lc, x_add, x_sub, x_and2, x_or2, x_xor2, x_lt, x_le, x_gt, x_ge, x_int, x_neg, x_cat, x_lenL, x_lenT, x_or, x_orT, x_orF, x_and, x_andT, x_andF, x_isn, x_isnN, x_isnI, x_insN, x_insI, x_yes, x_not, x_tru, x_andv, x_andvT, x_andvF, x_revi, x_krl, x_revr, x_enum, x_kel, x_ket, x_lcm, x_augi, x_fnot, x_inv, x_tuL, x_slT, x_slL, x_eqS, x_neS, x_eqI, x_neB, x_inS2, x_while, x_if, x_ieT, x_ieF, x_tup1, x_tup3, x_lst1, x_kst, eq_no, eq_em, x_word, fMul_ok c9 (i1000 (i := 48271) (by decide) (by decide)), fMul_ok j9 (i1000 (i := 69621) (by decide) (by decide)), fMod_ok (show (0 : Int) < 16 by decide), x_ixT hg, fMod_ok hp, fMod_ok hb]
theorem pow_abs {a n : Nat} (ha : a ≤ 1009) (hn : n ≤ 24) : (((a ^ n : Nat)) : Int).natAbs < 2 ^ 1000 := by
  rw [Int.natAbs_natCast]
  refine Nat.lt_of_le_of_lt (Nat.pow_le_pow_left ha n) (Nat.lt_of_le_of_lt (Nat.pow_le_pow_right (by decide) hn) (by decide +kernel))
theorem law_number (k : Nat) (c j b : Int) (hj0 : 0 ≤ j) (hj : j ≤ 100) (hb : 0 < b) (M : Mem) : ∃ v, 0 ≤ v ∧ v < b ∧ Fn cl pt (k + 2) 13 [.d (.int c), .d (.int j), .d (.int b)] M = .ok (.d (.int v)) M := by
  have m24 : (j % 24).toNat ≤ 24 := by omega
  obtain ⟨ρ', M', h1, y, hM, rfl⟩ := floop_inv (all := (rgI 0 (j % 24)).map fun i => W.d (.int i)) (g := none) (tg := .name 4) (b := dSet 3 (dBin fMul (dVar 3) (dC (.int 1009)))) (fun i ρ M' => ∃ y, M = M' ∧ ρ = [some (.d (.int c)), some (.d (.int j)), some (.d (.int b)), some (.d (.int ((1009 ^ i : Nat) : Int))), y, none, none]) ((rgI 0 (j % 24)).map fun i => W.d (.int i)) 0 [some (.d (.int c)), some (.d (.int j)), some (.d (.int b)), some (.d (.int 1)), none, none, none] M ⟨none, rfl, rfl⟩ (fun _ _ _ _ => gOk_none _ _) (by
    rintro i w ρ M' hw ⟨y, hM, rfl⟩
    subst hM
    have hi : i < 24 := by
      have := (List.getElem?_eq_some_iff.mp hw).1
      rw [List.length_map, rgI, List.length_map, List.length_range] at this
      omega
    rw [Nat.zero_add]
    refine ⟨_, _, _, rfl, .inl ?_, some w, rfl, rfl⟩
    simp only [x_bind, x_seq, x_nx, x_rt, x_set, x_st0, x_stS, x_v0, x_vS, x_c, x_bin, x_un, x_fl, x_nil, x_cons, x_ret, x_skip, x_expr, x_ifs, x_ifT, x_ifF, x_b, x_kb, x_tup, x_tup2, x_lst, x_lst0, x_lst2, x_lst3, x_lst4, x_lstM, x_lstM0, x_seti, x_rg1, x_krg1, x_rg2, x_krg2, x_rngi, x_lrg, x_seqi, x_ksl, x_for, x_kfor, x_part, x_kpart, x_nopart, x_sl, x_bm, x_aug, x_kaug, x_g0, x_gS, x_lcw, x_lc, x_add, x_sub, x_and2, x_or2, x_xor2, x_lt, x_le, x_gt, x_ge, x_int, x_neg, x_cat, x_lenL, x_lenT, x_or, x_orT, x_orF, x_and, x_andT, x_andF, x_isn, x_isnN, x_isnI, x_insN, x_insI, x_yes, x_not, x_tru, x_andv, x_andvT, x_andvF, x_revi, x_krl, x_revr, x_enum, x_kel, x_ket, x_lcm, x_augi, x_fnot, x_inv, x_tuL, x_slT, x_slL, x_eqS, x_neS, x_eqI, x_neB, x_inS2, x_while, x_if, x_ieT, x_ieF, x_tup1, x_tup3, x_lst1, x_kst, eq_no, eq_em, x_word, fMul_ok (pow_abs (a := 1009) (by decide) (Nat.le_of_lt hi)) (i1000 (i := 1009) (by decide) (by decide))]
    rw [show ((1009 ^ (i + 1) : Nat) : Int) = ((1009 ^ i : Nat) : Int) * 1009 by rw [Nat.pow_succ]; push_cast; rfl])
  subst hM
  rw [Nat.zero_add] at h1
  have hl : ((rgI 0 (j % 24)).map fun i => W.d (.int i)).length ≤ 24 := by
    rw [List.length_map, rgI, List.length_map, List.length_range]
    omega
  revert h1 hl
  generalize ((rgI 0 (j % 24)).map fun i => W.d (.int i)).length = q
  intro h1 hl
  have hpos : (0 : Int) < ((1009 ^ q : Nat) : Int) := by
    have : 0 < 1009 ^ q := Nat.pow_pos (by decide)
    omega
  have eP : fPow (.d (.int 10)) (.d (.int 18)) M = .ok (.d (.int (10 ^ 18))) M := by
    have : CPow 10 18 := by decide
    simp only [fPow, fII, if_pos this]
    rfl
  have r24 : okRg 0 (j % 24) = true := okRg_ok (by decide) (by decide) (by omega) (by omega)
  by_cases hr : 0 < (c - 10 ^ 18) / ((1009 ^ q : Nat) : Int)
  · refine ⟨(c - 10 ^ 18) / ((1009 ^ q : Nat) : Int) % 1009 % b, Int.emod_nonneg _ (by omega), Int.emod_lt_of_pos _ hb, ?_⟩
    rw [fn__law_number]
    refine def_of rfl (w := .d (.int ((c - 10 ^ 18) / ((1009 ^ q : Nat) : Int) % 1009 % b))) (M' := M) ?_ (finD_d _ _)
    show den__law_number cl pt (Fn cl pt (k + 1)) [some (.d (.int c)), some (.d (.int j)), some (.d (.int b)), none, none, none, none] M = _
    unfold den__law_number
    simp only [x_bind, x_seq, x_nx, x_rt, x_set, x_st0, x_stS, x_v0, x_vS, x_c, x_bin, x_un, x_fl, x_nil, x_cons, x_ret, x_skip, x_expr, x_ifs, x_ifT, x_ifF, x_b, x_kb, x_tup, x_tup2, x_lst, x_lst0, x_lst2, x_lst3, x_lst4, x_lstM, x_lstM0, x_seti, x_rg1, x_krg1, x_rg2, x_krg2, x_rngi, x_lrg, x_seqi, x_ksl, x_for, x_kfor, x_part, x_kpart, x_nopart, x_sl, x_bm, x_aug, x_kaug, x_g0, x_gS, x_lcw, x_lc, x_add, x_sub, x_and2, x_or2, x_xor2, x_lt, x_le, x_gt, x_ge, x_int, x_neg, x_cat, x_lenL, x_lenT, x_or, x_orT, x_orF, x_and, x_andT, x_andF, x_isn, x_isnN, x_isnI, x_insN, x_insI, x_yes, x_not, x_tru, x_andv, x_andvT, x_andvF, x_revi, x_krl, x_revr, x_enum, x_kel, x_ket, x_lcm, x_augi, x_fnot, x_inv, x_tuL, x_slT, x_slL, x_eqS, x_neS, x_eqI, x_neB, x_inS2, x_while, x_if, x_ieT, x_ieF, x_tup1, x_tup3, x_lst1, x_kst, eq_no, eq_em, x_word, fMod_ok (show (0 : Int) < 24 by decide), x_krngi r24]
    rw [h1]
    simp only [x_bind, x_seq, x_nx, x_rt, x_set, x_st0, x_stS, x_v0, x_vS, x_c, x_bin, x_un, x_fl, x_nil, x_cons, x_ret, x_skip, x_expr, x_ifs, x_ifT, x_ifF, x_b, x_kb, x_tup, x_tup2, x_lst, x_lst0, x_lst2, x_lst3, x_lst4, x_lstM, x_lstM0, x_seti, x_rg1, x_krg1, x_rg2, x_krg2, x_rngi, x_lrg, x_seqi, x_ksl, x_for, x_kfor, x_part, x_kpart, x_nopart, x_sl, x_bm, x_aug, x_kaug, x_g0, x_gS, x_lcw, x_lc, x_add, x_sub, x_and2, x_or2, x_xor2, x_lt, x_le, x_gt, x_ge, x_int, x_neg, x_cat, x_lenL, x_lenT, x_or, x_orT, x_orF, x_and, x_andT, x_andF, x_isn, x_isnN, x_isnI, x_insN, x_insI, x_yes, x_not, x_tru, x_andv, x_andvT, x_andvF, x_revi, x_krl, x_revr, x_enum, x_kel, x_ket, x_lcm, x_augi, x_fnot, x_inv, x_tuL, x_slT, x_slL, x_eqS, x_neS, x_eqI, x_neB, x_inS2, x_while, x_if, x_ieT, x_ieF, x_tup1, x_tup3, x_lst1, x_kst, eq_no, eq_em, x_word, eP, fDiv_ok hpos (pow_abs (a := 1009) (by decide) hl), x_dec hr, fMod_ok (show (0 : Int) < 1009 by decide), fMod_ok hb]
  · have s0 := Int.emod_nonneg c (by decide : (1000003 : Int) ≠ 0)
    have s1 := Int.emod_lt_of_pos c (by decide : (0 : Int) < 1000003)
    have a1 : (c % 1000003 + 977 * j).natAbs < 2 ^ 1000 := i1000 (by omega) (by omega)
    have a2 : (c % 1000003 + 31 * j + 5).natAbs < 2 ^ 1000 := i1000 (by omega) (by omega)
    obtain ⟨v, v0, v1, hv⟩ := law_draw (cl := cl) (pt := pt) k ((c % 1000003 + 977 * j) * (c % 1000003 + 31 * j + 5)) (j % 9 + 1) 999983 (by
      rw [Int.natAbs_mul]
      have b1 : (c % 1000003 + 977 * j).natAbs < 1000000000000 := by omega
      have b2 : (c % 1000003 + 31 * j + 5).natAbs < 1000000000000 := by omega
      exact Nat.lt_of_lt_of_le (Nat.mul_lt_mul'' b1 b2) (by decide +kernel)) (Nat.lt_trans (show (j % 9 + 1).natAbs < 10 by omega) (by decide +kernel)) (by decide) M
    refine ⟨v % b, Int.emod_nonneg _ (by omega), Int.emod_lt_of_pos _ hb, ?_⟩
    rw [fn__law_number]
    refine def_of rfl (w := .d (.int (v % b))) (M' := M) ?_ (finD_d _ _)
    show den__law_number cl pt (Fn cl pt (k + 1)) [some (.d (.int c)), some (.d (.int j)), some (.d (.int b)), none, none, none, none] M = _
    unfold den__law_number
    simp only [x_bind, x_seq, x_nx, x_rt, x_set, x_st0, x_stS, x_v0, x_vS, x_c, x_bin, x_un, x_fl, x_nil, x_cons, x_ret, x_skip, x_expr, x_ifs, x_ifT, x_ifF, x_b, x_kb, x_tup, x_tup2, x_lst, x_lst0, x_lst2, x_lst3, x_lst4, x_lstM, x_lstM0, x_seti, x_rg1, x_krg1, x_rg2, x_krg2, x_rngi, x_lrg, x_seqi, x_ksl, x_for, x_kfor, x_part, x_kpart, x_nopart, x_sl, x_bm, x_aug, x_kaug, x_g0, x_gS, x_lcw, x_lc, x_add, x_sub, x_and2, x_or2, x_xor2, x_lt, x_le, x_gt, x_ge, x_int, x_neg, x_cat, x_lenL, x_lenT, x_or, x_orT, x_orF, x_and, x_andT, x_andF, x_isn, x_isnN, x_isnI, x_insN, x_insI, x_yes, x_not, x_tru, x_andv, x_andvT, x_andvF, x_revi, x_krl, x_revr, x_enum, x_kel, x_ket, x_lcm, x_augi, x_fnot, x_inv, x_tuL, x_slT, x_slL, x_eqS, x_neS, x_eqI, x_neB, x_inS2, x_while, x_if, x_ieT, x_ieF, x_tup1, x_tup3, x_lst1, x_kst, eq_no, eq_em, x_word, fMod_ok (show (0 : Int) < 24 by decide), x_krngi r24]
    rw [h1]
    have e3 : j.natAbs < 2 ^ 1000 := i1000 (by omega) (by omega)
    simp only [x_bind, x_seq, x_nx, x_rt, x_set, x_st0, x_stS, x_v0, x_vS, x_c, x_bin, x_un, x_fl, x_nil, x_cons, x_ret, x_skip, x_expr, x_ifs, x_ifT, x_ifF, x_b, x_kb, x_tup, x_tup2, x_lst, x_lst0, x_lst2, x_lst3, x_lst4, x_lstM, x_lstM0, x_seti, x_rg1, x_krg1, x_rg2, x_krg2, x_rngi, x_lrg, x_seqi, x_ksl, x_for, x_kfor, x_part, x_kpart, x_nopart, x_sl, x_bm, x_aug, x_kaug, x_g0, x_gS, x_lcw, x_lc, x_add, x_sub, x_and2, x_or2, x_xor2, x_lt, x_le, x_gt, x_ge, x_int, x_neg, x_cat, x_lenL, x_lenT, x_or, x_orT, x_orF, x_and, x_andT, x_andF, x_isn, x_isnN, x_isnI, x_insN, x_insI, x_yes, x_not, x_tru, x_andv, x_andvT, x_andvF, x_revi, x_krl, x_revr, x_enum, x_kel, x_ket, x_lcm, x_augi, x_fnot, x_inv, x_tuL, x_slT, x_slL, x_eqS, x_neS, x_eqI, x_neB, x_inS2, x_while, x_if, x_ieT, x_ieF, x_tup1, x_tup3, x_lst1, x_kst, eq_no, eq_em, x_word, eP, fDiv_ok hpos (pow_abs (a := 1009) (by decide) hl), x_decF hr, fMod_ok (show (0 : Int) < 1000003 by decide), fMod_ok (show (0 : Int) < 9 by decide), fMul_ok (i1000 (i := 977) (by decide) (by decide)) e3, fMul_ok (i1000 (i := 31) (by decide) (by decide)) e3, fMul_ok a1 a2, hv, fMod_ok hb]
theorem law_next (k : Nat) (S : List Int) (c : Nat) (hc : c < 1000000000) (i : Nat) (b : Int) (hb : 0 < b) (M : Mem) (hi : M[i]? = some (dr S c)) : ∃ v, 0 ≤ v ∧ v < b ∧ Fn cl pt (k + 3) 14 [.r i, .d (.int b)] M = .ok (.d (.int v)) (M.set i (dr S (c + 1))) := by
  have hl := (List.getElem?_eq_some_iff.mp hi).1
  have q3 : (((c : Int) + 1) / 12).natAbs < 2 ^ 1000 := i1000 (by omega) (by omega)
  obtain ⟨x, hx⟩ := cell_at (cl := cl) (pt := pt) (k + 1) S (0 + ((c : Int) + 1) / 12) (by omega) (M.set i (dr S (c + 1)))
  obtain ⟨v, v0, v1, hv⟩ := law_number (cl := cl) (pt := pt) k (x + 31 * (((c : Int) + 1) / 12)) (((c : Int) + 1) % 12 + 1) b (by omega) (by omega) hb (M.set i (dr S (c + 1)))
  refine ⟨v, v0, v1, ?_⟩
  rw [fn__law_next]
  refine def_of rfl (w := .d (.int v)) (M' := M.set i (dr S (c + 1))) ?_ (finD_set0 (dr_ok _ _ _) (x := .int v))
  show den__law_next cl pt (Fn cl pt (k + 2)) [some (.r i), some (.d (.int b)), none, none] M = _
  unfold den__law_next
  have g : (M.set i (dr S (c + 1)))[i]? = some (dr S (c + 1)) := List.getElem?_set_self hl
  have e2 : getI [W.d (.list (S.map .int)), .d (.int 0), .d (.int c)] 2 = some (.d (.int c)) := rfl
  have f0 : getI [W.d (.list (S.map .int)), .d (.int 0), .d (.int ((c + 1 : Nat) : Int))] 0 = some (.d (.list (S.map .int))) := rfl
  have f1 : getI [W.d (.list (S.map .int)), .d (.int 0), .d (.int ((c + 1 : Nat) : Int))] 1 = some (.d (.int 0)) := rfl
  have f2 : getI [W.d (.list (S.map .int)), .d (.int 0), .d (.int ((c + 1 : Nat) : Int))] 2 = some (.d (.int ((c + 1 : Nat) : Int))) := rfl
  have s2 : setI [W.d (.list (S.map .int)), .d (.int 0), .d (.int c)] 2 (.d (.int ((c : Int) + 1))) = some [W.d (.list (S.map .int)), .d (.int 0), .d (.int ((c + 1 : Nat) : Int))] := rfl
  have cc : ((c + 1 : Nat) : Int) = (c : Int) + 1 := rfl
  simp only [x_bind, x_seq, x_nx, x_rt, x_set, x_st0, x_stS, x_v0, x_vS, x_c, x_bin, x_un, x_fl, x_nil, x_cons, x_ret, x_skip, x_expr, x_ifs, x_ifT, x_ifF, x_b, x_kb, x_tup, x_tup2, x_lst, x_lst0, x_lst2, x_lst3, x_lst4, x_lstM, x_lstM0, x_seti, x_rg1, x_krg1, x_rg2, x_krg2, x_rngi, x_lrg, x_seqi, x_ksl, x_for, x_kfor, x_part, x_kpart, x_nopart, x_sl, x_bm, x_aug, x_kaug, x_g0, x_gS, x_lcw, x_lc, x_add, x_sub, x_and2, x_or2, x_xor2, x_lt, x_le, x_gt, x_ge, x_int, x_neg, x_cat, x_lenL, x_lenT, x_or, x_orT, x_orF, x_and, x_andT, x_andF, x_isn, x_isnN, x_isnI, x_insN, x_insI, x_yes, x_not, x_tru, x_andv, x_andvT, x_andvF, x_revi, x_krl, x_revr, x_enum, x_kel, x_ket, x_lcm, x_augi, x_fnot, x_inv, x_tuL, x_slT, x_slL, x_eqS, x_neS, x_eqI, x_neB, x_inS2, x_while, x_if, x_ieT, x_ieF, x_tup1, x_tup3, x_lst1, x_kst, eq_no, eq_em, x_word, x_ixR hi e2, x_ksi hi s2]
  rw [show M.set i (O.lst [W.d (.list (S.map .int)), .d (.int 0), .d (.int ((c + 1 : Nat) : Int))]) = M.set i (dr S (c + 1)) from rfl]
  simp only [x_bind, x_seq, x_nx, x_rt, x_set, x_st0, x_stS, x_v0, x_vS, x_c, x_bin, x_un, x_fl, x_nil, x_cons, x_ret, x_skip, x_expr, x_ifs, x_ifT, x_ifF, x_b, x_kb, x_tup, x_tup2, x_lst, x_lst0, x_lst2, x_lst3, x_lst4, x_lstM, x_lstM0, x_seti, x_rg1, x_krg1, x_rg2, x_krg2, x_rngi, x_lrg, x_seqi, x_ksl, x_for, x_kfor, x_part, x_kpart, x_nopart, x_sl, x_bm, x_aug, x_kaug, x_g0, x_gS, x_lcw, x_lc, x_add, x_sub, x_and2, x_or2, x_xor2, x_lt, x_le, x_gt, x_ge, x_int, x_neg, x_cat, x_lenL, x_lenT, x_or, x_orT, x_orF, x_and, x_andT, x_andF, x_isn, x_isnN, x_isnI, x_insN, x_insI, x_yes, x_not, x_tru, x_andv, x_andvT, x_andvF, x_revi, x_krl, x_revr, x_enum, x_kel, x_ket, x_lcm, x_augi, x_fnot, x_inv, x_tuL, x_slT, x_slL, x_eqS, x_neS, x_eqI, x_neB, x_inS2, x_while, x_if, x_ieT, x_ieF, x_tup1, x_tup3, x_lst1, x_kst, eq_no, eq_em, x_word, x_ixR g f0, x_ixR g f1, x_ixR g f2, fDiv_ok (show (0 : Int) < 12 by decide) (i1000 (i := 12) (by decide) (by decide)), cc, hx, fMul_ok (i1000 (i := 31) (by decide) (by decide)) q3, fMod_ok (show (0 : Int) < 12 by decide), hv]
end Pf
namespace Pf
open PySem PySem.Spec PyProof.Rows L2 By
variable {cl pt : Nat → Addr}
abbrev wol (C : Addr) (ws : List (List Nat)) (l : List Nat) (n : Nat) : O := .ins C [(("words" : Str), .d (.list (ws.map fun w => .str (txt w)))), (("line" : Str), .d (.str (txt l))), (("number" : Str), .d (ni n))]
abbrev badC (cl : Nat → Addr) (n c : Nat) : Exn := ⟨.ref (cl 1), [(("column" : Str), ni c), (("line" : Str), ni n)]⟩
/-- the column of the word at a place -/
def col (ws : List (List Nat)) (l : List Nat) (a : Nat) : Nat := min (1 + ((ws.take a).map fun w => w.length + 1).sum) (l.length + 1)
theorem txt_len (l : List Nat) : (txt l).length = l.length := by show l.toArray.size = _; rw [List.size_toArray]
theorem small_log {n : Nat} (h : n ≤ 1000000) : (((n : Nat) : Int).natAbs.log2 < 1920) := by
  rw [Int.natAbs_natCast]
  have : n < 2 ^ 20 := by omega
  by_cases q : n = 0
  · subst q
    decide
  · have := (Nat.log2_lt q).mpr this
    omega
theorem sumG_ok {γ : Type} {P : Addr} {ti : DI} {tg : Tg} {te : DE} {vs : List Nat} {ρ : Rho} {M : Mem} {g : Gd} (inj : γ → W) (f : γ → Nat) (xs : List γ) (hti : ti ρ M = .ok (xs.map inj, g) M) (hP : O.tbl P ∈ M) (hg : gOk g (xs.map inj) M)
    (hs : ∀ x ∈ xs, ∃ ρ1, tg.den (inj x) (wipeR ρ vs) = some ρ1 ∧ te ρ1 M = .ok (.d (ni (f x))) M) : dSumG P ti tg dYes te vs ρ M = .ok (.d (ni (xs.map f).sum)) M := by
  unfold dSumG dGc
  rw [hti, x_bind, if_pos hP]
  rw [cloop_map inj (fun _ => true) (fun x => W.d (ni (f x))) hg xs fun x hx => by
    obtain ⟨ρ1, h1, h3⟩ := hs x hx
    exact ⟨ρ1, h1, x_yes, fun _ => h3⟩]
  rw [List.filter_eq_self.mpr (fun _ _ => rfl), x_bind]
  have e0 : ∀ xs : List γ, allI (xs.map fun x => ni (f x)) = some (xs.map fun x => ((f x : Nat) : Int)) := by
    intro xs
    induction xs with
    | nil => rfl
    | cons x xs ih =>
      rw [List.map_cons, List.map_cons]
      unfold allI
      rw [ih]
      rfl
  have e1 : ∀ xs : List γ, allIw (xs.map fun x => W.d (ni (f x))) = some (xs.map fun x => ((f x : Nat) : Int)) := fun xs => by
    have e : (xs.map fun x => W.d (ni (f x))) = (xs.map fun x => ni (f x)).map W.d := by rw [List.map_map]; rfl
    unfold allIw
    rw [e, allD_map]
    exact e0 xs
  have e2 : ∀ xs : List γ, (xs.map fun x => ((f x : Nat) : Int)).sum = (((xs.map f).sum : Nat) : Int) := by
    intro xs
    induction xs with
    | nil => rfl
    | cons x xs ih =>
      rw [List.map_cons, List.sum_cons, ih, List.map_cons, List.sum_cons]
      push_cast
      rfl
  unfold finU
  rw [e1]
  simp only
  rw [e2]
section
variable {M : Mem} {i n : Nat} {ws : List (List Nat)} {l : List Nat} {ρ : Rho}
theorem fld_words (hM : M[i]? = some (wol (cl 0) ws l n)) : kFld (cl 0) "words" (.r i) M = .ok (.d (.list (ws.map fun w => .str (txt w)))) M := x_kfld hM rfl
theorem fld_line (hM : M[i]? = some (wol (cl 0) ws l n)) : kFld (cl 0) "line" (.r i) M = .ok (.d (.str (txt l))) M := x_kfld hM rfl
theorem fld_number (hM : M[i]? = some (wol (cl 0) ws l n)) : kFld (cl 0) "number" (.r i) M = .ok (.d (ni n)) M := x_kfld hM rfl
/-- what holds of a line's words -/
structure Lw (ws : List (List Nat)) (l : List Nat) (n : Nat) : Prop where
  w : ∀ w ∈ ws, w.length ≤ 100000
  len : ws.length ≤ 100000
  l : l.length ≤ 100000
  n : n ≤ 100000
theorem wrong_ok (k a : Nat) (ha : a ≤ ws.length) (h : Lw ws l n) (hT : O.tbl (pt 0) ∈ M) (hM : M[i]? = some (wol (cl 0) ws l n)) : Fn cl pt (k + 4) 4 [.r i, .d (ni a)] M = .ex (badC cl n (col ws l a)) M := by
  rw [fn_WordsOfLine_wrong]
  refine def_ex rfl ?_
  show den_WordsOfLine_wrong cl pt (Fn cl pt (k + 2)) [some (.r i), some (.d (ni a)), none, none] M = _
  unfold den_WordsOfLine_wrong
  have sl : fSl (.d (.list (ws.map fun w => .str (txt w)))) none (some ((a : Nat) : Int)) M = .ok (.d (.list ((ws.take a).map fun w => .str (txt w)))) M := by
    rw [x_slL, cut_take _ _ (by rw [List.length_map]; exact ha), List.map_take]
  have sm := sumG_ok (P := pt 0) (ti := dSeqI (dSl (dFld (cl 0) "words" (dVar 0)) (dNoPart) (dPart (dVar 1)))) (tg := .name 3) (te := dBin fAdd (dFL fLen (dCons (dVar 3) dNil)) (dC (.int 1))) (vs := [3]) (ρ := [some (.r i), some (.d (ni a)), none, none]) (M := M) (g := none) (fun w : List Nat => W.d (.str (txt w))) (fun w => w.length + 1) (ws.take a) (by
    rw [x_seqi, x_sl, x_fld, x_v0, x_bind, fld_words hM, x_bind, x_nopart, x_bind, x_part, x_vS, x_v0, x_bind, x_kpart, x_bind, sl, x_bind, x_ksl, List.map_map]
    rfl) hT (gOk_none _ _) (fun w hw => by
    have hl := h.w w (List.mem_of_mem_take hw)
    have ln : fLen [.d (.str (txt w))] M = .ok (.d (ni w.length)) M := by
      show (if (txt w).length ≤ 1000000 then R.ok (W.d (.int (txt w).length)) M else .bot) = _
      rw [txt_len, if_pos (by omega)]
    have e : fAdd (.d (ni w.length)) (.d (.int 1)) M = .ok (.d (ni (w.length + 1))) M := by
      rw [show fAdd (.d (ni w.length)) (.d (.int 1)) M = _ from fAdd_ok]
      rfl
    refine ⟨_, den_name, ?_⟩
    simp only [wipeR, x_bin, x_fl, x_cons, x_nil, x_v0, x_vS, x_st0, x_stS, x_c, x_bind, ln, e])
  have sb : ∀ xs : List (List Nat), (∀ w ∈ xs, w.length ≤ 100000) → (xs.map fun w => w.length + 1).sum ≤ xs.length * 100001 := by
    intro xs
    induction xs with
    | nil => intro _; exact Nat.zero_le _
    | cons x xs ih =>
      intro hx
      have a := hx x List.mem_cons_self
      have b := ih fun y hy => hx y (List.mem_cons_of_mem _ hy)
      rw [List.map_cons, List.sum_cons, List.length_cons, Nat.add_mul]
      omega
  have e1 : ∀ M, fAdd (.d (.int 1)) (.d (ni ((ws.take a).map fun w => w.length + 1).sum)) M = .ok (.d (ni (1 + ((ws.take a).map fun w => w.length + 1).sum))) M := fun M => by
    rw [show fAdd (.d (.int 1)) (.d (ni ((ws.take a).map fun w => w.length + 1).sum)) M = _ from fAdd_ok]
    congr 3
  have ll : fLen [.d (.str (txt l))] M = .ok (.d (ni l.length)) M := by
    have := h.l
    show (if (txt l).length ≤ 1000000 then R.ok (W.d (.int (txt l).length)) M else .bot) = _
    rw [txt_len, if_pos (by omega)]
  have e2 : ∀ M, fAdd (.d (ni l.length)) (.d (.int 1)) M = .ok (.d (ni (l.length + 1))) M := fun M => by
    rw [show fAdd (.d (ni l.length)) (.d (.int 1)) M = _ from fAdd_ok]
    rfl
  have mn : ∀ M, fMin2 [.d (ni (1 + ((ws.take a).map fun w => w.length + 1).sum)), .d (ni (l.length + 1))] M = .ok (.d (ni (col ws l a))) M := fun M => by
    show R.ok (W.d (.int (if ((l.length + 1 : Nat) : Int) < ((1 + ((ws.take a).map fun w => w.length + 1).sum : Nat) : Int) then ((l.length + 1 : Nat) : Int) else ((1 + ((ws.take a).map fun w => w.length + 1).sum : Nat) : Int)))) M = _
    unfold col
    congr 3
    split <;> omega
  have cb : col ws l a ≤ 100001 := by
    have := h.l
    unfold col
    omega
  have nb := h.n
  rw [x_seq, x_set, x_bin, x_c, x_bind, sm, x_bind, e1, x_bind, x_bind, x_nx]
  simp only [x_st0, x_stS]
  unfold dRaise2
  simp only [x_fld, x_v0, x_vS, x_bind, fld_number hM, x_fl, x_cons, x_nil, x_bin, x_c, fld_line hM, ll, e2, mn]
  refine if_pos ?_
  show (decide (((n : Nat) : Int).natAbs.log2 < 1920) && decide (((col ws l a : Nat) : Int).natAbs.log2 < 1920)) = true
  rw [decide_eq_true (small_log (by omega)), decide_eq_true (small_log (by omega))]
  rfl
end

end Pf
namespace Pf
open PySem PySem.Spec PyProof.Rows L2 By
variable {cl pt : Nat → Addr}
theorem allBw_map : ∀ bs : List Bool, allBw (bs.map fun b => W.d (.bool b)) = some bs
  | [] => rfl
  | b :: bs => by
    rw [List.map_cons]
    unfold allBw
    rw [allBw_map bs]
    rfl
theorem gloop_allB {γ : Type} {all : List W} {gg : Gd} {tg : Tg} {te : DE} {ρ0 : Rho} {M : Mem} (inj : γ → W) (p : γ → Bool) (hg : gOk gg all M) : ∀ xs : List γ, (∀ x ∈ xs, ∃ ρ1, tg.den (inj x) ρ0 = some ρ1 ∧ te ρ1 M = .ok (.d (.bool (p x))) M) →
    ∃ bs, gloop (isB false) all gg tg dYes te ρ0 (xs.map inj) M = .ok (bs.map fun b => W.d (.bool b), !(xs.all p)) M ∧ lastIs false bs (!(xs.all p)) = true ∧ ((!(xs.all p)) = true → 0 < bs.length)
  | [], _ => by
    refine ⟨[], ?_, ?_, fun h => by cases h⟩
    · rw [List.map_nil]
      unfold gloop
      rw [if_pos hg]
      rfl
    · first | rfl | decide
  | x :: xs, h => by
    obtain ⟨ρ1, h1, h2⟩ := h x List.mem_cons_self
    cases hp : p x with
    | false =>
      refine ⟨[false], ?_, ?_, fun _ => by decide⟩
      · rw [List.map_cons]
        conv => lhs; unfold gloop
        rw [if_pos hg, h1]
        rw [hp] at h2
        simp only [x_yes, noEx, bind_ok, if_true, h2, isB, List.all_cons, hp, Bool.false_and, Bool.not_false, beq_self_eq_true, List.map_cons, List.map_nil]
      · simp only [List.all_cons, hp, Bool.false_and, Bool.not_false]
        first | rfl | decide
    | true =>
      obtain ⟨bs, k1, k2, k3⟩ := gloop_allB inj p hg xs fun y hy => h y (List.mem_cons_of_mem _ hy)
      refine ⟨true :: bs, ?_, ?_, fun _ => by rw [List.length_cons]; omega⟩
      · rw [List.map_cons]
        conv => lhs; unfold gloop
        rw [if_pos hg, h1]
        rw [hp] at h2
        have e : ((true == false) : Bool) = false := rfl
        simp only [x_yes, noEx, bind_ok, if_true, h2, isB, e, Bool.false_eq_true, if_false, k1, List.all_cons, hp, Bool.true_and, List.map_cons]
      · simp only [List.all_cons, hp, Bool.true_and]
        revert k2 k3
        cases (!(xs.all p)) with
        | false =>
          intro k2 _
          unfold lastIs at k2 ⊢
          simp only [Bool.false_eq_true, if_false] at k2 ⊢
          rw [List.all_cons, k2]
          rfl
        | true =>
          intro k2 k3
          have hb := k3 rfl
          match bs, hb, k2 with
          | b :: bs, _, k2 =>
            unfold lastIs at k2 ⊢
            simp only [if_true] at k2 ⊢
            rw [Bool.and_eq_true] at k2
            rw [List.dropLast_cons_cons, List.all_cons, k2.1, List.getLast?_cons_cons, k2.2]
            rfl
theorem allG_ok {γ : Type} {P : Addr} {ti : DI} {tg : Tg} {te : DE} {vs : List Nat} {ρ : Rho} {M : Mem} {gg : Gd} (inj : γ → W) (p : γ → Bool) (xs : List γ) (hti : ti ρ M = .ok (xs.map inj, gg) M) (hP : O.tbl P ∈ M) (hg : gOk gg (xs.map inj) M)
    (hs : ∀ x ∈ xs, ∃ ρ1, tg.den (inj x) (wipeR ρ vs) = some ρ1 ∧ te ρ1 M = .ok (.d (.bool (p x))) M) : dAllG P ti tg dYes te vs ρ M = .ok (.d (.bool (xs.all p))) M := by
  obtain ⟨bs, h1, h2, h3⟩ := gloop_allB (all := xs.map inj) (gg := gg) (ρ0 := wipeR ρ vs) inj p hg xs hs
  unfold dAllG dGx
  rw [hti, bind_ok, if_pos hP, h1, bind_ok]
  unfold finQ
  simp only [allBw_map]
  rw [if_pos ⟨h2, fun q => by rw [List.length_map]; exact h3 q⟩]
  cases xs.all p <;> rfl
def dig (c : Nat) : Bool := decide (c ∈ ("0123456789" : Str).cps.toList)
/-- a number of one to six figures, with no figure 0 ahead -/
def figs (w : List Nat) : Bool := (decide (1 ≤ w.length) && decide (w.length ≤ 6)) && (!(decide (1 < w.length) && decide (w[0]? = some 48)) && w.all dig)
theorem txtI_ok {te : DE} {ρ : Rho} {M : Mem} {w : List Nat} (h : te ρ M = .ok (.d (.str (txt w))) M) : dTxtI te ρ M = .ok (w.map fun c => W.d (.str (ch c)), none) M := by
  unfold dTxtI
  rw [h, x_bind]
theorem len_ok {M : Mem} {w : List Nat} (h : w.length ≤ 1000000) : fLen [.d (.str (txt w))] M = .ok (.d (ni w.length)) M := by
  show (if (txt w).length ≤ 1000000 then R.ok (W.d (.int (txt w).length)) M else .bot) = _
  rw [txt_len, if_pos h]
theorem isfig_ok (k : Nat) (w : List Nat) (h : w.length ≤ 100000) (M : Mem) (hT : O.tbl (pt 3) ∈ M) : Fn cl pt (k + 2) 10 [.d (.str (txt w))] M = .ok (.d (.bool (figs w))) M := by
  rw [fn_is_figures]
  refine def_of rfl (w := .d (.bool (figs w))) (M' := M) ?_ (finD_d _ _)
  show den_is_figures cl pt (Fn cl pt k) [some (.d (.str (txt w))), none] M = _
  unfold den_is_figures
  have ln : ∀ M, fLen [.d (.str (txt w))] M = .ok (.d (ni w.length)) M := fun M => len_ok (by omega)
  have mf : T_MOST_FIGURES = .int 6 := rfl
  have ag := allG_ok (P := pt 3) (ti := dTxtI (dVar 0)) (tg := .name 1) (te := dBin fInS (dVar 1) (dC T_FIGURES)) (vs := [1]) (ρ := [some (.d (.str (txt w))), none]) (M := M) (gg := none) (fun c : Nat => W.d (.str (ch c))) dig w (txtI_ok rfl) hT (gOk_none _ _) (fun c _ => by
    refine ⟨_, den_name, ?_⟩
    simp only [wipeR, x_bin, x_v0, x_vS, x_st0, x_stS, x_c, x_bind]
    rfl)
  have z0 : ("0" : Str) = ch 48 := rfl
  have chn : dB (dChain fLe fLe (dC (.int 1)) (dFL fLen (dCons (dVar 0) dNil)) (dC T_MOST_FIGURES)) [some (.d (.str (txt w))), none] M = .ok (decide (1 ≤ w.length) && decide (w.length ≤ 6)) M := by
    rw [mf]
    by_cases h1 : 1 ≤ w.length
    · by_cases h2 : w.length ≤ 6
      · simp only [x_b, x_chain, x_c, x_bind, x_fl, x_cons, x_nil, x_v0, ln, x_le, decide_eq_true (show (1 : Int) ≤ ((w.length : Nat) : Int) by omega), x_kchT, x_kch2, decide_eq_true (show ((w.length : Nat) : Int) ≤ 6 by omega), x_kch3, x_kb, decide_eq_true h1, decide_eq_true h2, Bool.and_self]
      · simp only [x_b, x_chain, x_c, x_bind, x_fl, x_cons, x_nil, x_v0, ln, x_le, decide_eq_true (show (1 : Int) ≤ ((w.length : Nat) : Int) by omega), x_kchT, x_kch2, decide_eq_false (show ¬ ((w.length : Nat) : Int) ≤ 6 by omega), x_kch3, x_kb, decide_eq_true h1, decide_eq_false h2, Bool.and_false]
    · simp only [x_b, x_chain, x_c, x_bind, x_fl, x_cons, x_nil, x_v0, ln, x_le, decide_eq_false (show ¬ (1 : Int) ≤ ((w.length : Nat) : Int) by omega), x_kchF, x_kb, decide_eq_false h1, Bool.false_and]
  have two : dAnd (dB (dBin fGt (dFL fLen (dCons (dVar 0) dNil)) (dC (.int 1)))) (dB (dBin (fEq false) (dBin fIxS (dVar 0) (dC (.int 0))) (dC (.str "0")))) [some (.d (.str (txt w))), none] M = .ok (decide (1 < w.length) && decide (w[0]? = some 48)) M := by
    by_cases h1 : 1 < w.length
    · have hc : w[0]? = some w[0] := List.getElem?_eq_getElem (by omega)
      have ix := x_ixs (M := M) (p := 0) hc (by omega)
      have ix' : fIxS (.d (.str (txt w))) (.d (.int 0)) M = .ok (.d (.str (ch w[0]))) M := ix
      have e : decide (w[0] = 48) = decide (w[0]? = some 48) := decide_eq_decide.mpr (by rw [hc]; simp)
      simp only [x_and, x_b, x_bin, x_fl, x_cons, x_nil, x_v0, x_bind, ln, x_c, x_gt, decide_eq_true (show ((w.length : Nat) : Int) > 1 by omega), x_kb, x_andT, ix', z0, x_eqS, ch_eq, e, decide_eq_true h1, Bool.true_and]
    · simp only [x_and, x_b, x_bin, x_fl, x_cons, x_nil, x_v0, x_bind, ln, x_c, x_gt, decide_eq_false (show ¬ ((w.length : Nat) : Int) > 1 by omega), x_kb, x_andF, decide_eq_false h1, Bool.false_and]
  have e0 : ∀ a b c : Bool, (a && (!b && c)) = if (!a || b) = true then false else c := by decide
  have tst : dOr (dNot (dB (dChain fLe fLe (dC (.int 1)) (dFL fLen (dCons (dVar 0) dNil)) (dC T_MOST_FIGURES)))) (dAnd (dB (dBin fGt (dFL fLen (dCons (dVar 0) dNil)) (dC (.int 1)))) (dB (dBin (fEq false) (dBin fIxS (dVar 0) (dC (.int 0))) (dC (.str "0"))))) [some (.d (.str (txt w))), none] M = .ok (!(decide (1 ≤ w.length) && decide (w.length ≤ 6)) || (decide (1 < w.length) && decide (w[0]? = some 48))) M := by
    rw [x_or, x_not, chn, x_bind, x_bind]
    cases (decide (1 ≤ w.length) && decide (w.length ≤ 6)) with
    | true => rw [Bool.not_true, x_orF, two, Bool.false_or]
    | false => rw [Bool.not_false, x_orT, Bool.true_or]
  unfold figs
  rw [e0, x_seq, x_ifs, tst, x_bind]
  cases (!(decide (1 ≤ w.length) && decide (w.length ≤ 6)) || (decide (1 < w.length) && decide (w[0]? = some 48))) with
  | true =>
    rw [x_ifT, x_ret, x_c, x_bind, if_pos rfl]
    rfl
  | false =>
    rw [x_ifF, x_skip, x_bind, x_nx, x_ret, ag, x_bind, if_neg Bool.false_ne_true]

end Pf
namespace Pf
open PySem PySem.Spec PyProof.Rows L2 By
variable {cl pt : Nat → Addr}
def numA (ws : List (List Nat)) (a : Nat) : Option (Except Nat Int) := match ws[a]? with
  | none => some (.error a)
  | some w => if figs w = true then (PySem.intText? (txt w)).map .ok else some (.error a)
theorem figs_len {w : List Nat} (h : figs w = true) : w.length ≤ 6 := by
  unfold figs at h
  simp only [Bool.and_eq_true, decide_eq_true_eq] at h
  exact h.1.2
section
variable {M : Mem} {i n : Nat} {ws : List (List Nat)} {l : List Nat} {ρ : Rho}
theorem word_at {a : Nat} {w : List Nat} (h : ws[a]? = some w) : fIx (.d (.list (ws.map fun w => .str (txt w)))) (.d (ni a)) M = .ok (.d (.str (txt w))) M := by
  refine x_ixL ?_
  rw [getI_pos (by omega), Int.toNat_natCast, List.getElem?_map, h]
  rfl
theorem len_words {M : Mem} : fLen [.d (.list (ws.map fun w => .str (txt w)))] M = .ok (.d (ni ws.length)) M := by
  show R.ok (W.d (.int ((ws.map fun w => PyData.str (txt w)).length : Nat))) M = _
  rw [List.length_map]
theorem numat_ok (k a : Nat) (ha : a ≤ ws.length) (h : Lw ws l n) (hT : O.tbl (pt 0) ∈ M) (hT3 : O.tbl (pt 3) ∈ M) (hM : M[i]? = some (wol (cl 0) ws l n)) {r : Except Nat Int} (hr : numA ws a = some r) :
    Fn cl pt (k + 5) 9 [.r i, .d (ni a)] M = match r with
    | .ok v => .ok (.d (.int v)) M
    | .error b => .ex (badC cl n (col ws l b)) M := by
  have wr := wrong_ok (cl := cl) (pt := pt) k a ha h hT hM
  have ge : ∀ M, fGe (.d (ni a)) (.d (ni ws.length)) M = .ok (.d (.bool (decide (ws.length ≤ a)))) M := fun M => by
    rw [show fGe (.d (ni a)) (.d (ni ws.length)) M = _ from x_ge]
    exact congrArg (fun b => R.ok (W.d (PyData.bool b)) M) (decide_eq_decide.mpr (show ((a : Nat) : Int) ≥ ((ws.length : Nat) : Int) ↔ ws.length ≤ a by omega))
  unfold numA at hr
  cases hw : ws[a]? with
  | none =>
    rw [hw] at hr
    cases hr
    have hl : ws.length ≤ a := List.getElem?_eq_none_iff.mp hw
    show _ = R.ex _ _
    rw [fn_WordsOfLine_number_at]
    refine def_ex rfl ?_
    show den_WordsOfLine_number_at cl pt (Fn cl pt (k + 4)) [some (.r i), some (.d (ni a))] M = _
    unfold den_WordsOfLine_number_at
    simp only [x_seq, x_ifs, x_or, x_b, x_bin, x_v0, x_vS, x_bind, x_fl, x_cons, x_nil, x_fld, fld_words hM, len_words, ge, decide_eq_true hl, x_kb, x_orT, x_ifT, x_expr, x_meth, x_kmeth hM (show (List.lookup ("wrong" : Str) _) = none from rfl), wr, x_bindX]
  | some w =>
    rw [hw] at hr
    simp only at hr
    have hl : ¬ ws.length ≤ a := fun z => by rw [List.getElem?_eq_none_iff.mpr z] at hw; cases hw
    have hwl := h.w w (List.mem_of_getElem? hw)
    have fg := isfig_ok (cl := cl) (pt := pt) (k + 2) w hwl M hT3
    have wa := word_at (M := M) hw
    by_cases q : figs w = true
    · rw [if_pos q] at hr
      rw [q] at fg
      cases ht : PySem.intText? (txt w) with
      | none => rw [ht] at hr; cases hr
      | some v =>
        rw [ht] at hr
        cases hr
        have it : fIntS [.d (.str (txt w))] M = .ok (.d (.int v)) M := by
          have := figs_len q
          unfold fIntS
          simp only [txt_len, ht, show w.length ≤ 640 by omega, if_true]
        show _ = R.ok _ _
        rw [fn_WordsOfLine_number_at]
        refine def_of rfl (w := .d (.int v)) (M' := M) ?_ (finD_d _ _)
        show den_WordsOfLine_number_at cl pt (Fn cl pt (k + 4)) [some (.r i), some (.d (ni a))] M = _
        unfold den_WordsOfLine_number_at
        simp only [x_seq, x_ifs, x_or, x_not, x_b, x_bin, x_v0, x_vS, x_bind, x_fl, x_cons, x_nil, x_fld, fld_words hM, len_words, ge, decide_eq_false hl, x_kb, x_orF, wa, fg, Bool.not_true, x_ifF, x_skip, x_nx, x_ret, it, x_rt]
    · rw [if_neg q] at hr
      cases hr
      have q' : figs w = false := by simpa using q
      rw [q'] at fg
      show _ = R.ex _ _
      rw [fn_WordsOfLine_number_at]
      refine def_ex rfl ?_
      show den_WordsOfLine_number_at cl pt (Fn cl pt (k + 4)) [some (.r i), some (.d (ni a))] M = _
      unfold den_WordsOfLine_number_at
      simp only [x_seq, x_ifs, x_or, x_not, x_b, x_bin, x_v0, x_vS, x_bind, x_fl, x_cons, x_nil, x_fld, fld_words hM, len_words, ge, decide_eq_false hl, x_kb, x_orF, wa, fg, Bool.not_false, x_ifT, x_expr, x_meth, x_kmeth hM (show (List.lookup ("wrong" : Str) _) = none from rfl), wr, x_bindX]
end

end Pf
namespace Pf
open PySem PySem.Spec PyProof.Rows L2 By
variable {cl pt : Nat → Addr}
def numsA (ws : List (List Nat)) : Nat → Nat → Option (Except Nat (List Int))
  | 0, _ => some (.ok [])
  | m + 1, a => match numA ws a with
    | none => none
    | some (.error b) => some (.error b)
    | some (.ok v) => match numsA ws m (a + 1) with
      | none => none
      | some (.error b) => some (.error b)
      | some (.ok vs) => some (.ok (v :: vs))
def numsF (ws : List (List Nat)) (a : Nat) : Option (Except Nat (List Int)) := numsA ws (ws.length - a) a
theorem numsA_ok {ws : List (List Nat)} : ∀ {m a : Nat} {vs : List Int}, numsA ws m a = some (.ok vs) → vs.length = m ∧ ∀ j, j < m → ∃ v, vs[j]? = some v ∧ numA ws (a + j) = some (.ok v)
  | 0, a, vs, h => by cases h; exact ⟨rfl, fun j hj => absurd hj (Nat.not_lt_zero _)⟩
  | m + 1, a, vs, h => by
    unfold numsA at h
    split at h
    · cases h
    · cases h
    · rename_i v hv
      split at h
      · cases h
      · cases h
      · rename_i vs' hvs
        cases h
        obtain ⟨h1, h2⟩ := numsA_ok hvs
        refine ⟨by rw [List.length_cons, h1], fun j hj => ?_⟩
        cases j with
        | zero => exact ⟨v, rfl, hv⟩
        | succ j =>
          obtain ⟨u, u1, u2⟩ := h2 j (by omega)
          exact ⟨u, by rw [List.getElem?_cons_succ]; exact u1, by rw [show a + (j + 1) = a + 1 + j by omega]; exact u2⟩
theorem numsA_err {ws : List (List Nat)} : ∀ {m a b : Nat}, numsA ws m a = some (.error b) → ∃ (j : Nat) (vs : List Int), j < m ∧ numA ws (a + j) = some (.error b) ∧ vs.length = j ∧ ∀ i, i < j → ∃ v : Int, vs[i]? = some v ∧ numA ws (a + i) = some (.ok v)
  | 0, a, b, h => by cases h
  | m + 1, a, b, h => by
    unfold numsA at h
    split at h
    · cases h
    · rename_i b' hv
      cases h
      exact ⟨0, [], by omega, hv, rfl, fun i hi => absurd hi (Nat.not_lt_zero _)⟩
    · rename_i v hv
      split at h
      · cases h
      · rename_i b' hvs
        cases h
        obtain ⟨j, vs, h1, h2, h3, h4⟩ := numsA_err hvs
        refine ⟨j + 1, v :: vs, by omega, by rw [show a + (j + 1) = a + 1 + j by omega]; exact h2, by rw [List.length_cons, h3], fun i hi => ?_⟩
        cases i with
        | zero => exact ⟨v, rfl, hv⟩
        | succ i =>
          obtain ⟨u, u1, u2⟩ := h4 i (by omega)
          exact ⟨u, by rw [List.getElem?_cons_succ]; exact u1, by rw [show a + (i + 1) = a + 1 + i by omega]; exact u2⟩
      · cases h
theorem rgI_nat (a b : Nat) : rgI (a : Int) (b : Int) = (List.range (b - a)).map fun i => ((a + i : Nat) : Int) := by
  unfold rgI
  rw [show ((b : Int) - (a : Int)).toNat = b - a by omega]
  apply List.map_congr_left
  intro i _
  rfl
abbrev vsD (vs : List Int) : PyData := .tuple (vs.map .int)
section
variable {M : Mem} {i n : Nat} {ws : List (List Nat)} {l : List Nat} {ρ : Rho}
theorem nums_ok (k a : Nat) (ha : a ≤ ws.length) (h : Lw ws l n) (hT : O.tbl (pt 0) ∈ M) (hT2 : O.tbl (pt 2) ∈ M) (hT3 : O.tbl (pt 3) ∈ M) (hM : M[i]? = some (wol (cl 0) ws l n)) {r : Except Nat (List Int)} (hr : numsF ws a = some r) :
    Fn cl pt (k + 7) 8 [.r i, .d (ni a)] M = match r with
    | .ok vs => .ok (.d (vsD vs)) M
    | .error b => .ex (badC cl n (col ws l b)) M := by
  have hlen := h.len
  have num := fun (j : Nat) (hj : j < ws.length - a) (r : Except Nat Int) (hr : numA ws (a + j) = some r) => numat_ok (cl := cl) (pt := pt) k (a + j) (by omega) h hT hT3 hM hr
  have ok0 : okRg ((a : Nat) : Int) ((ws.length : Nat) : Int) = true := okRg_ok (by omega) (by omega) (by omega) (by omega)
  have ti : ∀ (xs : List Nat), xs = List.range (ws.length - a) → dRngI (dRg2 (dVar 1) (dFL fLen (dCons (dFld (cl 0) "words" (dVar 0)) dNil))) [some (.r i), some (.d (ni a)), none] M = .ok (xs.map (fun j => W.d (ni (a + j))), none) M := fun xs hx => by
    rw [x_rngi, x_rg2, x_vS, x_v0, x_bind, x_fl, x_cons, x_fld, x_v0, x_bind, fld_words hM, x_bind, x_nil, x_bind, x_bind, len_words, x_bind, x_krg2, x_bind, x_krngi ok0, rgI_nat, List.map_map, hx]
    rfl
  have elt : ∀ (j : Nat) (r : R W), Fn cl pt (k + 5) 9 [.r i, .d (ni (a + j))] M = r → dMeth (cl 0) "number_at" (Fn cl pt (k + 5) 9) (dVar 0) (dCons (dVar 2) (dNil)) [some (.r i), some (.d (ni a)), some (.d (ni (a + j)))] M = r := fun j r hj => by
    rw [x_meth, x_v0, x_bind, x_kmeth hM (show (List.lookup ("number_at" : Str) _) = none from rfl), x_cons, x_vS, x_vS, x_v0, x_bind, x_nil, x_bind, x_bind]
    exact hj
  unfold numsF at hr
  cases r with
  | ok vs =>
    obtain ⟨h1, h2⟩ := numsA_ok hr
    show _ = R.ok _ _
    rw [fn_WordsOfLine_numbers_from]
    refine def_of rfl (w := .d (vsD vs)) (M' := M) ?_ (finD_d _ _)
    show den_WordsOfLine_numbers_from cl pt (Fn cl pt (k + 5)) [some (.r i), some (.d (ni a)), none] M = _
    unfold den_WordsOfLine_numbers_from
    have tx := tupX_ok (C := .ref (cl 1)) (P := pt 2) (tg := .name 2) (te := dMeth (cl 0) "number_at" (Fn cl pt (k + 5) 9) (dVar 0) (dCons (dVar 2) (dNil))) (vs := [2]) (fun j : Nat => W.d (ni (a + j))) (fun j => .int (vs.getD j 0)) (List.range (ws.length - a)) (ti _ rfl) hT2 (gOk_none _ _) (by rw [List.length_range]; omega) (fun j hj => by
      have hj' := List.mem_range.mp hj
      obtain ⟨v, v1, v2⟩ := h2 j hj'
      refine ⟨_, den_name, elt j _ ?_⟩
      rw [num j hj' _ v2, List.getD_eq_getElem?_getD, v1]
      rfl)
    have e : (List.range (ws.length - a)).map (fun j => PyData.int (vs.getD j 0)) = vs.map .int := by
      apply List.ext_getElem?
      intro j
      rw [List.getElem?_map, List.getElem?_map]
      by_cases q : j < ws.length - a
      · rw [List.getElem?_range q, List.getElem?_eq_getElem (by omega : j < vs.length)]
        show some (PyData.int (vs.getD j 0)) = _
        rw [List.getD_eq_getElem?_getD, List.getElem?_eq_getElem (by omega : j < vs.length)]
        rfl
      · rw [List.getElem?_eq_none_iff.mpr (by rw [List.length_range]; omega), List.getElem?_eq_none_iff.mpr (by omega)]
        rfl
    rw [e] at tx
    rw [x_ret, tx, x_bind]
  | error b =>
    obtain ⟨j, vs, j1, j2, j3, j4⟩ := numsA_err hr
    show _ = R.ex _ _
    rw [fn_WordsOfLine_numbers_from]
    refine def_ex rfl ?_
    show den_WordsOfLine_numbers_from cl pt (Fn cl pt (k + 5)) [some (.r i), some (.d (ni a)), none] M = _
    unfold den_WordsOfLine_numbers_from
    have sp : List.range j ++ j :: (List.range' (j + 1) (ws.length - a - (j + 1))) = List.range (ws.length - a) := by
      rw [List.range_eq_range', List.range_eq_range', show j :: List.range' (j + 1) (ws.length - a - (j + 1)) = List.range' (0 + 1 * j) (ws.length - a - (j + 1) + 1) by rw [List.range'_succ]; simp, List.range'_append]
      congr 1
      omega
    have tx := tupX_ex (C := .ref (cl 1)) (P := pt 2) (tg := .name 2) (te := dMeth (cl 0) "number_at" (Fn cl pt (k + 5) 9) (dVar 0) (dCons (dVar 2) (dNil))) (vs := [2]) (fun j : Nat => W.d (ni (a + j))) (fun j => .int (vs.getD j 0)) (List.range j) (x := j) (post := List.range' (j + 1) (ws.length - a - (j + 1))) (e := badC cl n (col ws l b)) rfl (ti _ sp) hT2 (gOk_none _ _) (by rw [List.length_range]; omega) (fun q hq => by
      have hq' := List.mem_range.mp hq
      obtain ⟨v, v1, v2⟩ := j4 q hq'
      refine ⟨_, den_name, elt q _ ?_⟩
      rw [num q (by omega) _ v2, List.getD_eq_getElem?_getD, v1]
      rfl) ⟨_, den_name, elt j _ (num j (by omega) _ j2)⟩
    rw [x_ret, tx, x_bindX]
end

end Pf
namespace Pf
open PySem PySem.Spec PyProof.Rows L2 By
variable {cl pt : Nat → Addr}
def b01 (c : Nat) : Bool := decide (c ∈ ("01" : Str).cps.toList)
def gwF (ws : List (List Nat)) : Except Nat (List Nat) := match ws[1]? with
  | none => .error 1
  | some s => if (decide (s.length = 0) || (!decide (s.length &&& (s.length - 1) = 0) || !s.all b01)) = true then .error 1 else .ok (s.map fun c => c - 48)
theorem b01_c {c : Nat} (h : b01 c = true) : c = 48 ∨ c = 49 := by
  have h' : c ∈ ("01" : Str).cps.toList := of_decide_eq_true h
  have e : ("01" : Str).cps.toList = [48, 49] := by decide +kernel
  rw [e] at h'
  simpa using h'
theorem int01 {c : Nat} (h : b01 c = true) (M : Mem) : fIntS [.d (.str (ch c))] M = .ok (.d (ni (c - 48))) M := by
  have e0 : PySem.intText? (ch 48) = some 0 := by decide +kernel
  have e1 : PySem.intText? (ch 49) = some 1 := by decide +kernel
  rcases b01_c h with rfl | rfl
  · unfold fIntS
    simp only [e0]
    exact if_pos (by show 1 ≤ 640; omega)
  · unfold fIntS
    simp only [e1]
    exact if_pos (by show 1 ≤ 640; omega)
section
variable {M : Mem} {i n : Nat} {ws : List (List Nat)} {l : List Nat} {ρ : Rho}
theorem gw_ok (k : Nat) (hne : 1 ≤ ws.length) (h : Lw ws l n) (hT : O.tbl (pt 0) ∈ M) (hT1 : O.tbl (pt 1) ∈ M) (hM : M[i]? = some (wol (cl 0) ws l n)) :
    Fn cl pt (k + 6) 7 [.r i] M = match gwF ws with
    | .ok bs => .ok (.d (.tuple (bs.map ni))) M
    | .error b => .ex (badC cl n (col ws l b)) M := by
  have wr := wrong_ok (cl := cl) (pt := pt) k 1 hne h hT hM
  have wr' : Fn cl pt (k + 4) 4 [.r i, .d (.int 1)] M = .ex (badC cl n (col ws l 1)) M := wr
  have lt2 : ∀ M, fLt (.d (ni ws.length)) (.d (.int 2)) M = .ok (.d (.bool (decide (ws.length < 2)))) M := fun M => by
    rw [show fLt (.d (ni ws.length)) (.d (.int 2)) M = _ from x_lt]
    exact congrArg (fun b => R.ok (W.d (PyData.bool b)) M) (decide_eq_decide.mpr (by omega))
  unfold gwF
  rw [fn_WordsOfLine_gate_words]
  cases hw : ws[1]? with
  | none =>
    have hl : ws.length < 2 := by
      have := List.getElem?_eq_none_iff.mp hw
      omega
    refine def_ex rfl ?_
    show den_WordsOfLine_gate_words cl pt (Fn cl pt (k + 4)) [some (.r i), none, none, none] M = _
    unfold den_WordsOfLine_gate_words
    simp only [x_seq, x_ifs, x_b, x_bin, x_fl, x_cons, x_nil, x_fld, x_v0, x_bind, fld_words hM, len_words, x_c, lt2, decide_eq_true hl, x_kb, x_ifT, x_expr, x_meth, x_kmeth hM (show (List.lookup ("wrong" : Str) _) = none from rfl), wr', x_bindX]
  | some s =>
    have hl : ¬ ws.length < 2 := by
      have := (List.getElem?_eq_some_iff.mp hw).1
      omega
    have sl := h.w s (List.mem_of_getElem? hw)
    have wa : fIx (.d (.list (ws.map fun w => .str (txt w)))) (.d (.int 1)) M = .ok (.d (.str (txt s))) M := word_at (a := 1) hw
    have ln : ∀ M, fLen [.d (.str (txt s))] M = .ok (.d (ni s.length)) M := fun M => len_ok (by omega)
    have ag := allG_ok (P := pt 1) (ti := dTxtI (dVar 1)) (tg := .name 3) (te := dBin fInS (dVar 3) (dC (.str "01"))) (vs := [3]) (ρ := [some (.r i), some (.d (.str (txt s))), some (.d (ni s.length)), none]) (M := M) (gg := none) (fun c : Nat => W.d (.str (ch c))) b01 s (txtI_ok rfl) hT1 (gOk_none _ _) (fun c _ => by
      refine ⟨_, den_name, ?_⟩
      simp only [wipeR, x_bin, x_v0, x_vS, x_st0, x_stS, x_c, x_bind]
      rfl)
    have tst : dOr (dB (dBin (fEq false) (dVar 2) (dC (.int 0)))) (dOr (dB (dBin (fEq true) (dBin fAnd (dVar 2) (dBin fSub (dVar 2) (dC (.int 1)))) (dC (.int 0)))) (dNot (dB (dAllG (pt 1) (dTxtI (dVar 1)) (.name 3) (dYes) (dBin fInS (dVar 3) (dC (.str "01"))) [3])))) [some (.r i), some (.d (.str (txt s))), some (.d (ni s.length)), none] M = .ok (decide (s.length = 0) || (!decide (s.length &&& (s.length - 1) = 0) || !s.all b01)) M := by
      by_cases q : s.length = 0
      · simp only [x_or, x_b, x_bin, x_v0, x_vS, x_c, x_bind, x_eqI, decide_eq_true (show ((s.length : Nat) : Int) = 0 by omega), x_kb, x_orT, decide_eq_true q, Bool.true_or]
      · have e1 : fSub (.d (ni s.length)) (.d (.int 1)) M = .ok (.d (ni (s.length - 1))) M := by
          rw [show fSub (.d (ni s.length)) (.d (.int 1)) M = _ from fSub_ok]
          congr 3
          omega
        have e2 : fAnd (.d (ni s.length)) (.d (ni (s.length - 1))) M = .ok (.d (ni (s.length &&& (s.length - 1)))) M := by
          rw [show fAnd (.d (ni s.length)) (.d (ni (s.length - 1))) M = _ from x_and2]
          rw [PyProof.Rows.bitAnd_pp (by omega) (by omega), Int.toNat_natCast, Int.toNat_natCast]
        have e3 : fEq true (.d (ni (s.length &&& (s.length - 1)))) (.d (.int 0)) M = .ok (.d (.bool (!decide (s.length &&& (s.length - 1) = 0)))) M := by
          rw [x_eqD (show okEq (ni (s.length &&& (s.length - 1))) (.int 0) = true by simp [okEq, PyData.plain, PyData.depth])]
          unfold PyData.eqv
          refine congrArg (fun b => R.ok (W.d (PyData.bool (!b))) M) ?_
          show decide _ = _
          exact decide_eq_decide.mpr (by omega)
        simp only [x_or, x_b, x_bin, x_v0, x_vS, x_c, x_bind, x_eqI, decide_eq_false (show ¬ ((s.length : Nat) : Int) = 0 by omega), x_kb, x_orF, e1, e2, e3, decide_eq_false q, Bool.false_or]
        cases (decide (s.length &&& (s.length - 1) = 0)) with
        | false => simp only [Bool.not_false, x_orT, Bool.true_or]
        | true => simp only [Bool.not_true, x_orF, x_not, x_b, ag, x_bind, x_kb, Bool.false_or]
    simp only
    cases q : (decide (s.length = 0) || (!decide (s.length &&& (s.length - 1) = 0) || !s.all b01)) with
    | true =>
      rw [q] at tst
      rw [if_pos rfl]
      refine def_ex rfl ?_
      show den_WordsOfLine_gate_words cl pt (Fn cl pt (k + 4)) [some (.r i), none, none, none] M = _
      unfold den_WordsOfLine_gate_words
      simp only [x_seq, x_ifs, x_b, x_bin, x_fl, x_cons, x_nil, x_fld, x_v0, x_vS, x_bind, fld_words hM, len_words, x_c, lt2, decide_eq_false hl, x_kb, x_ifF, x_skip, x_nx, x_set, x_st0, x_stS, wa, ln]
      rw [tst]
      simp only [x_bind, x_ifT, x_expr, x_meth, x_v0, x_kmeth hM (show (List.lookup ("wrong" : Str) _) = none from rfl), x_cons, x_nil, x_c, wr', x_bindX]
    | false =>
      rw [q] at tst
      rw [if_neg Bool.false_ne_true]
      have al : s.all b01 = true := by
        cases z : s.all b01 with
        | true => rfl
        | false => rw [z] at q; simp at q
      have tg := tupG_ok (P := pt 1) (ti := dTxtI (dVar 1)) (tg := .name 3) (c := dYes) (te := dFL fIntS (dCons (dVar 3) dNil)) (vs := [3]) (ρ := [some (.r i), some (.d (.str (txt s))), some (.d (ni s.length)), none]) (M := M) (g := none) (fun c : Nat => W.d (.str (ch c))) (fun c => ni (c - 48)) s (txtI_ok rfl) hT1 (gOk_none _ _) (by omega) (fun c hc => by
        refine ⟨_, den_name, x_yes, ?_⟩
        simp only [wipeR, x_fl, x_cons, x_nil, x_v0, x_vS, x_st0, x_stS, x_bind, int01 (List.all_eq_true.mp al c hc) M])
      refine def_of rfl (w := .d (.tuple ((s.map fun c => c - 48).map ni))) (M' := M) ?_ (finD_d _ _)
      show den_WordsOfLine_gate_words cl pt (Fn cl pt (k + 4)) [some (.r i), none, none, none] M = _
      unfold den_WordsOfLine_gate_words
      simp only [x_seq, x_ifs, x_b, x_bin, x_fl, x_cons, x_nil, x_fld, x_v0, x_vS, x_bind, fld_words hM, len_words, x_c, lt2, decide_eq_false hl, x_kb, x_ifF, x_skip, x_nx, x_set, x_st0, x_stS, wa, ln]
      rw [tst]
      simp only [x_bind, x_ifF, x_skip, x_nx, x_ret, tg, List.map_map]
      rfl
end

end Pf
namespace Pf
open PySem PySem.Spec PyProof.Rows L2 By
variable {cl pt : Nat → Addr}
def wINP : List Nat := [105, 110, 112, 117, 116, 115]
def wGAT : List Nat := [103, 97, 116, 101]
def wOUT : List Nat := [111, 117, 116, 112, 117, 116, 115]
theorem txt_inj {a b : List Nat} (h : txt a = txt b) : a = b := by
  have := congrArg (fun s : Str => s.cps.toList) h
  simpa using this
theorem ne_txt {M : Mem} (a b : List Nat) : fEq true (.d (.str (txt a))) (.d (.str (txt b))) M = .ok (.d (.bool (!decide (a = b)))) M := by
  rw [x_neS]
  by_cases q : a = b
  · subst q
    rw [decide_eq_true rfl, beq_self_eq_true]
  · rw [decide_eq_false q]
    have : (txt a == txt b) = false := by
      cases h : (txt a == txt b) with
      | false => rfl
      | true => exact absurd (txt_inj (eq_of_beq h)) q
    rw [this]
theorem ne_nat {M : Mem} (a b : Nat) : fEq true (.d (ni a)) (.d (ni b)) M = .ok (.d (.bool (!decide (a = b)))) M := by
  rw [x_eqD (show okEq (ni a) (ni b) = true by simp [okEq, PyData.plain, PyData.depth])]
  unfold PyData.eqv
  refine congrArg (fun b => R.ok (W.d (PyData.bool (!b))) M) ?_
  show decide _ = _
  exact decide_eq_decide.mpr (by omega)
def riF (ws : List (List Nat)) : Option (Except Nat Int) := match ws[0]? with
  | none => none
  | some w => if w = wINP then (match numA ws 1 with
      | none => none
      | some (.error b) => some (.error b)
      | some (.ok v) => if 2 < ws.length then some (.error 2) else some (.ok v)) else some (.error 0)
def rgF (ws : List (List Nat)) : Option (Except Nat (List Int × List Nat)) := match ws[0]? with
  | none => none
  | some w => if w = wGAT then (match gwF ws with
      | .error b => some (.error b)
      | .ok bs => match numsF ws 2 with
        | none => none
        | some (.error b) => some (.error b)
        | some (.ok vs) => if bs.length = 2 ^ vs.length then some (.ok (vs, bs)) else some (.error 1)) else some (.error 0)
section
variable {M : Mem} {i n : Nat} {ws : List (List Nat)} {l : List Nat} {ρ : Rho}
theorem ri_ok (k : Nat) (hne : 1 ≤ ws.length) (h : Lw ws l n) (hT : O.tbl (pt 0) ∈ M) (hT3 : O.tbl (pt 3) ∈ M) (hM : M[i]? = some (wol (cl 0) ws l n)) {r : Except Nat Int} (hr : riF ws = some r) :
    Fn cl pt (k + 6) 5 [.r i] M = match r with
    | .ok v => .ok (.d (.int v)) M
    | .error b => .ex (badC cl n (col ws l b)) M := by
  have z : ("inputs" : Str) = txt wINP := rfl
  have wr0 : Fn cl pt (k + 5) 4 [.r i, .d (.int 0)] M = .ex (badC cl n (col ws l 0)) M := wrong_ok (cl := cl) (pt := pt) (k + 1) 0 (by omega) h hT hM
  unfold riF at hr
  obtain ⟨w, hw⟩ : ∃ w, ws[0]? = some w := ⟨ws[0], List.getElem?_eq_getElem (by omega)⟩
  have wa : fIx (.d (.list (ws.map fun w => .str (txt w)))) (.d (.int 0)) M = .ok (.d (.str (txt w))) M := word_at (a := 0) hw
  rw [hw] at hr
  simp only at hr
  by_cases q : w = wINP
  · rw [if_pos q] at hr
    cases hn : numA ws 1 with
    | none => rw [hn] at hr; cases hr
    | some r1 =>
      have na := numat_ok (cl := cl) (pt := pt) k 1 hne h hT hT3 hM hn
      have na' : Fn cl pt (k + 5) 9 [.r i, .d (.int 1)] M = _ := na
      rw [hn] at hr
      cases r1 with
      | error b =>
        cases hr
        show _ = R.ex _ _
        rw [fn_WordsOfLine_read_inputs]
        refine def_ex rfl ?_
        show den_WordsOfLine_read_inputs cl pt (Fn cl pt (k + 5)) [some (.r i), none] M = _
        unfold den_WordsOfLine_read_inputs
        simp only [x_seq, x_ifs, x_b, x_bin, x_fld, x_v0, x_bind, fld_words hM, x_c, wa, z, ne_txt, decide_eq_true q, Bool.not_true, x_kb, x_ifF, x_skip, x_nx, x_set, x_meth, x_kmeth hM (show (List.lookup ("number_at" : Str) _) = none from rfl), x_cons, x_nil, na', x_bindX]
      | ok v =>
        simp only at hr
        have gt2 : ∀ M, fGt (.d (ni ws.length)) (.d (.int 2)) M = .ok (.d (.bool (decide (2 < ws.length)))) M := fun M => by
          rw [show fGt (.d (ni ws.length)) (.d (.int 2)) M = _ from x_gt]
          exact congrArg (fun b => R.ok (W.d (PyData.bool b)) M) (decide_eq_decide.mpr (by omega))
        by_cases q2 : 2 < ws.length
        · rw [if_pos q2] at hr
          cases hr
          have wr2 : Fn cl pt (k + 5) 4 [.r i, .d (.int 2)] M = .ex (badC cl n (col ws l 2)) M := wrong_ok (cl := cl) (pt := pt) (k + 1) 2 (by omega) h hT hM
          show _ = R.ex _ _
          rw [fn_WordsOfLine_read_inputs]
          refine def_ex rfl ?_
          show den_WordsOfLine_read_inputs cl pt (Fn cl pt (k + 5)) [some (.r i), none] M = _
          unfold den_WordsOfLine_read_inputs
          simp only [x_seq, x_ifs, x_b, x_bin, x_fld, x_v0, x_bind, fld_words hM, x_c, wa, z, ne_txt, decide_eq_true q, Bool.not_true, x_kb, x_ifF, x_skip, x_nx, x_set, x_meth, x_kmeth hM (show (List.lookup ("number_at" : Str) _) = none from rfl), x_cons, x_nil, na', x_st0, x_stS, x_fl, len_words, gt2, decide_eq_true q2, x_ifT, x_expr, x_kmeth hM (show (List.lookup ("wrong" : Str) _) = none from rfl), wr2, x_bindX]
        · rw [if_neg q2] at hr
          cases hr
          show _ = R.ok _ _
          rw [fn_WordsOfLine_read_inputs]
          refine def_of rfl (w := .d (.int v)) (M' := M) ?_ (finD_d _ _)
          show den_WordsOfLine_read_inputs cl pt (Fn cl pt (k + 5)) [some (.r i), none] M = _
          unfold den_WordsOfLine_read_inputs
          simp only [x_seq, x_ifs, x_b, x_bin, x_fld, x_v0, x_bind, fld_words hM, x_c, wa, z, ne_txt, decide_eq_true q, Bool.not_true, x_kb, x_ifF, x_skip, x_nx, x_set, x_meth, x_kmeth hM (show (List.lookup ("number_at" : Str) _) = none from rfl), x_cons, x_nil, na', x_st0, x_stS, x_fl, len_words, gt2, decide_eq_false q2, x_ret, x_vS]
  · rw [if_neg q] at hr
    cases hr
    show _ = R.ex _ _
    rw [fn_WordsOfLine_read_inputs]
    refine def_ex rfl ?_
    show den_WordsOfLine_read_inputs cl pt (Fn cl pt (k + 5)) [some (.r i), none] M = _
    unfold den_WordsOfLine_read_inputs
    simp only [x_seq, x_ifs, x_b, x_bin, x_fld, x_v0, x_bind, fld_words hM, x_c, wa, z, ne_txt, decide_eq_false q, Bool.not_false, x_kb, x_ifT, x_expr, x_meth, x_kmeth hM (show (List.lookup ("wrong" : Str) _) = none from rfl), x_cons, x_nil, wr0, x_bindX]
theorem rg_ok (k : Nat) (hne : 1 ≤ ws.length) (hk : ws.length ≤ 900) (h : Lw ws l n) (hT : O.tbl (pt 0) ∈ M) (hT1 : O.tbl (pt 1) ∈ M) (hT2 : O.tbl (pt 2) ∈ M) (hT3 : O.tbl (pt 3) ∈ M) (hM : M[i]? = some (wol (cl 0) ws l n)) {r : Except Nat (List Int × List Nat)} (hr : rgF ws = some r) :
    Fn cl pt (k + 8) 6 [.r i] M = match r with
    | .ok (vs, bs) => .ok (.d (.tuple [vsD vs, .tuple (bs.map ni)])) M
    | .error b => .ex (badC cl n (col ws l b)) M := by
  have z : ("gate" : Str) = txt wGAT := rfl
  have wr0 : Fn cl pt (k + 7) 4 [.r i, .d (.int 0)] M = .ex (badC cl n (col ws l 0)) M := wrong_ok (cl := cl) (pt := pt) (k + 3) 0 (by omega) h hT hM
  have wr1 : Fn cl pt (k + 7) 4 [.r i, .d (.int 1)] M = .ex (badC cl n (col ws l 1)) M := wrong_ok (cl := cl) (pt := pt) (k + 3) 1 hne h hT hM
  have gw : Fn cl pt (k + 7) 7 [.r i] M = _ := gw_ok (cl := cl) (pt := pt) (k + 1) hne h hT hT1 hM
  unfold rgF at hr
  obtain ⟨w, hw⟩ : ∃ w, ws[0]? = some w := ⟨ws[0], List.getElem?_eq_getElem (by omega)⟩
  have wa : fIx (.d (.list (ws.map fun w => .str (txt w)))) (.d (.int 0)) M = .ok (.d (.str (txt w))) M := word_at (a := 0) hw
  rw [hw] at hr
  simp only at hr
  by_cases q : w = wGAT
  · rw [if_pos q] at hr
    cases hg : gwF ws with
    | error b =>
      rw [hg] at hr gw
      cases hr
      show _ = R.ex _ _
      rw [fn_WordsOfLine_read_gate]
      refine def_ex rfl ?_
      show den_WordsOfLine_read_gate cl pt (Fn cl pt (k + 7)) [some (.r i), none, none] M = _
      unfold den_WordsOfLine_read_gate
      simp only [x_seq, x_ifs, x_b, x_bin, x_fld, x_v0, x_bind, fld_words hM, x_c, wa, z, ne_txt, decide_eq_true q, Bool.not_true, x_kb, x_ifF, x_skip, x_nx, x_set, x_meth, x_kmeth hM (show (List.lookup ("gate_words" : Str) _) = none from rfl), x_nil, gw, x_bindX]
    | ok bs =>
      rw [hg] at hr gw
      simp only at hr
      have l2 : 2 ≤ ws.length := by
        unfold gwF at hg
        cases hs : ws[1]? with
        | none => rw [hs] at hg; cases hg
        | some s => have := (List.getElem?_eq_some_iff.mp hs).1; omega
      cases hn : numsF ws 2 with
      | none => rw [hn] at hr; cases hr
      | some r1 =>
        have nm : Fn cl pt (k + 7) 8 [.r i, .d (.int 2)] M = _ := nums_ok (cl := cl) (pt := pt) k 2 l2 h hT hT2 hT3 hM hn
        rw [hn] at hr
        cases r1 with
        | error b =>
          cases hr
          show _ = R.ex _ _
          rw [fn_WordsOfLine_read_gate]
          refine def_ex rfl ?_
          show den_WordsOfLine_read_gate cl pt (Fn cl pt (k + 7)) [some (.r i), none, none] M = _
          unfold den_WordsOfLine_read_gate
          simp only [x_seq, x_ifs, x_b, x_bin, x_fld, x_v0, x_bind, fld_words hM, x_c, wa, z, ne_txt, decide_eq_true q, Bool.not_true, x_kb, x_ifF, x_skip, x_nx, x_set, x_meth, x_kmeth hM (show (List.lookup ("gate_words" : Str) _) = none from rfl), x_nil, gw, x_st0, x_stS, x_kmeth hM (show (List.lookup ("numbers_from" : Str) _) = none from rfl), x_cons, nm, x_bindX]
        | ok vs =>
          simp only at hr
          have vl : vs.length ≤ 900 := by
            have := (numsA_ok hn).1
            omega
          have lb : ∀ M, fLen [.d (.tuple (bs.map ni))] M = .ok (.d (ni bs.length)) M := fun M => by
            rw [x_lenT, List.length_map]
          have lv : ∀ M, fLen [.d (vsD vs)] M = .ok (.d (ni vs.length)) M := fun M => by
            rw [x_lenT, List.length_map]
          have sh : ∀ M, fShl (.d (.int 1)) (.d (ni vs.length)) M = .ok (.d (ni (2 ^ vs.length))) M := fun M => by
            have e : (1 : Int) * 2 ^ vs.length = ((2 ^ vs.length : Nat) : Int) := by push_cast; omega
            rw [show fShl (.d (.int 1)) (.d (ni vs.length)) M = _ from fShl_ok (by omega) (by omega) (Nat.lt_of_lt_of_le (show (1 : Int).natAbs < 2 ^ 1 by decide) (Nat.pow_le_pow_right (by decide) (by decide))), Int.toNat_natCast, e]
          by_cases q2 : bs.length = 2 ^ vs.length
          · rw [if_pos q2] at hr
            cases hr
            show _ = R.ok _ _
            rw [fn_WordsOfLine_read_gate]
            refine def_of rfl (w := .d (.tuple [vsD vs, .tuple (bs.map ni)])) (M' := M) ?_ (finD_d _ _)
            show den_WordsOfLine_read_gate cl pt (Fn cl pt (k + 7)) [some (.r i), none, none] M = _
            unfold den_WordsOfLine_read_gate
            have t2 : ∀ (a b : PyData) M', kTup [.d a, .d b] M' = .ok (.d (.tuple [a, b])) M' := fun _ _ _ => x_tup2
            simp only [x_seq, x_ifs, x_b, x_bin, x_fld, x_v0, x_vS, x_bind, fld_words hM, x_c, wa, z, ne_txt, decide_eq_true q, Bool.not_true, x_kb, x_ifF, x_skip, x_nx, x_set, x_meth, x_kmeth hM (show (List.lookup ("gate_words" : Str) _) = none from rfl), x_nil, gw, x_st0, x_stS, x_kmeth hM (show (List.lookup ("numbers_from" : Str) _) = none from rfl), x_cons, nm, x_fl, lb, lv, sh, ne_nat, decide_eq_true q2, x_ret, x_tup, t2]
          · rw [if_neg q2] at hr
            cases hr
            show _ = R.ex _ _
            rw [fn_WordsOfLine_read_gate]
            refine def_ex rfl ?_
            show den_WordsOfLine_read_gate cl pt (Fn cl pt (k + 7)) [some (.r i), none, none] M = _
            unfold den_WordsOfLine_read_gate
            simp only [x_seq, x_ifs, x_b, x_bin, x_fld, x_v0, x_vS, x_bind, fld_words hM, x_c, wa, z, ne_txt, decide_eq_true q, Bool.not_true, x_kb, x_ifF, x_skip, x_nx, x_set, x_meth, x_kmeth hM (show (List.lookup ("gate_words" : Str) _) = none from rfl), x_nil, gw, x_st0, x_stS, x_kmeth hM (show (List.lookup ("numbers_from" : Str) _) = none from rfl), x_cons, nm, x_fl, lb, lv, sh, ne_nat, decide_eq_false q2, Bool.not_false, x_ifT, x_expr, x_kmeth hM (show (List.lookup ("wrong" : Str) _) = none from rfl), wr1, x_bindX]
  · rw [if_neg q] at hr
    cases hr
    show _ = R.ex _ _
    rw [fn_WordsOfLine_read_gate]
    refine def_ex rfl ?_
    show den_WordsOfLine_read_gate cl pt (Fn cl pt (k + 7)) [some (.r i), none, none] M = _
    unfold den_WordsOfLine_read_gate
    simp only [x_seq, x_ifs, x_b, x_bin, x_fld, x_v0, x_bind, fld_words hM, x_c, wa, z, ne_txt, decide_eq_false q, Bool.not_false, x_kb, x_ifT, x_expr, x_meth, x_kmeth hM (show (List.lookup ("wrong" : Str) _) = none from rfl), x_cons, x_nil, wr0, x_bindX]
end

end Pf
namespace Pf
open PySem PySem.Spec PyProof.Rows L2 By
variable {cl pt : Nat → Addr}
def spW (l : List Nat) : List (List Nat) := TL.spl [32] 0 [] l
def spL (z : List Nat) : List (List Nat) := TL.spl [10] 0 [] z
theorem tlx (l : List Nat) : TL.tl (txt l) = l := by show l.toArray.toList = l; simp
theorem split_eq (y : Str) (s : Nat) (hy : TL.tl y = [s]) (hk : y.cps.all (· < 256) = true) (l : List Nat) : Txt.split (txt l) y = (TL.spl [s] 0 [] l).map txt := by
  refine TL.map_tl_inj ?_
  rw [TL.split_spl (txt l) y (by rw [hy]; simp) (TL.kind_ok hk), hy, tlx, List.map_map]
  have : (TL.tl ∘ txt) = id := by funext l; exact tlx l
  rw [this, List.map_id]
theorem set_at {M : Mem} {i : Nat} {o o' : O} (h : M[i]? = some o) : (M.set i o')[i]? = some o' := List.getElem?_set_self (List.getElem?_eq_some_iff.mp h).1
section
variable {M : Mem} {i n : Nat} {l : List Nat} {ρ : Rho}
theorem sp_words (hl : l.length ≤ 100000) (M : Mem) : fSplit (txt l) (.d (.str " ")) M = .ok (.d (.list ((spW l).map fun w => .str (txt w)))) M := by
  rw [x_split (show ((" " : Str).length == 0) = false by decide) (by rw [txt_len]; omega), split_eq " " 32 rfl (by decide +kernel) l, List.map_map]
  rfl
theorem sp_lines (hl : l.length ≤ 100000) (M : Mem) : fSplit (txt l) (.d (.str "\n")) M = .ok (.d (.list ((spL l).map fun w => .str (txt w)))) M := by
  rw [x_split (show (("\n" : Str).length == 0) = false by decide) (by rw [txt_len]; omega), split_eq "\n" 10 rfl (by decide +kernel) l, List.map_map]
  rfl
theorem init_ok (k : Nat) (hl : l.length ≤ 100000) (hM : M[i]? = some (.ins (cl 0) [])) : Fn cl pt (k + 1) 3 [.r i, .d (.str (txt l)), .d (ni n)] M = .ok (.d .none) (M.set i (wol (cl 0) (spW l) l n)) := by
  rw [fn_WordsOfLine_init]
  refine defK_no (ρ := [some (.r i), some (.d (.str (txt l))), some (.d (ni n))]) rfl ?_
  show den_WordsOfLine_init cl pt (Fn cl pt k) [some (.r i), some (.d (.str (txt l))), some (.d (ni n))] M = _
  unfold den_WordsOfLine_init
  have h0 : ([] : List (Str × W)).length < 1000 := by decide
  have sp := sp_words hl
  simp only [x_seq, x_setf, x_tx, x_ktx, x_v0, x_vS, x_bind, x_c, sp, x_ksetf hM h0, x_nx]
  have hM1 : (M.set i (.ins (cl 0) (putFW "words" (.d (.list ((spW l).map fun w => .str (txt w)))) [])))[i]? = some (.ins (cl 0) (putFW "words" (.d (.list ((spW l).map fun w => .str (txt w)))) [])) := set_at hM
  rw [x_ksetf hM1 (show 1 < 1000 by decide), x_bind, x_nx, List.set_set, x_setf, x_vS, x_vS, x_v0, x_bind, x_v0, x_bind]
  have hM2 : (M.set i (.ins (cl 0) (putFW "line" (.d (.str (txt l))) (putFW "words" (.d (.list ((spW l).map fun w => .str (txt w)))) []))))[i]? = some (.ins (cl 0) (putFW "line" (.d (.str (txt l))) (putFW "words" (.d (.list ((spW l).map fun w => .str (txt w)))) []))) := set_at hM
  rw [x_ksetf hM2 (show 2 < 1000 by decide), List.set_set]
  rfl
/-- the instances of the lines -/
def lnI (cl : Nat → Addr) : Nat → List (List Nat) → Mem
  | _, [] => []
  | n, l :: ls => wol (cl 0) (spW l) l n :: lnI cl (n + 1) ls
theorem lnI_len : ∀ (ls : List (List Nat)) (n : Nat), (lnI cl n ls).length = ls.length
  | [], _ => rfl
  | l :: ls, n => by
    show (lnI cl (n + 1) ls).length + 1 = _
    rw [lnI_len ls (n + 1)]
    rfl
def enumL : Nat → List (List Nat) → List W
  | _, [] => []
  | n, l :: ls => .d (.tuple [ni n, .str (txt l)]) :: enumL (n + 1) ls
theorem enum_eq : ∀ (ls : List (List Nat)) (n : Nat), enumDS ((n : Nat) : Int) (ls.map fun l => .str (txt l)) = enumL n ls
  | [], _ => rfl
  | l :: ls, n => by
    have ih := enum_eq ls (n + 1)
    unfold enumDS at ih ⊢
    rw [List.map_cons, List.mapIdx_cons]
    show W.d (.tuple [.int ((n : Int) + ((0 : Nat) : Int)), .str (txt l)]) :: _ = W.d (.tuple [.int ((n : Nat) : Int), .str (txt l)]) :: enumL (n + 1) ls
    rw [← ih]
    congr 1
    apply congrArg (fun f => List.mapIdx f (ls.map fun l => PyData.str (txt l)))
    funext i d
    congr 4
    push_cast
    omega
theorem make_ok (k : Nat) (hl : l.length ≤ 100000) (ρ : Rho) (h5 : ρ[5]? = some (some (.d (ni n)))) (h4 : ρ[4]? = some (some (.d (.str (txt l))))) (M : Mem) : dMake (cl 0) (Fn cl pt (k + 1) 3) (dCons (dVar 4) (dCons (dVar 5) (dNil))) ρ M = .ok (.r M.length) (M ++ [wol (cl 0) (spW l) l n]) := by
  have A : (M ++ [O.ins (cl 0) []])[M.length]? = some (.ins (cl 0) []) := at_last rfl
  have ini := init_ok (cl := cl) (pt := pt) (n := n) k hl A
  have v4 : ∀ M, dVar 4 ρ M = .ok (.d (.str (txt l))) M := fun M => by unfold dVar; rw [h4]
  have v5 : ∀ M, dVar 5 ρ M = .ok (.d (ni n)) M := fun M => by unfold dVar; rw [h5]
  have ls : (M ++ [O.ins (cl 0) []]).set M.length (wol (cl 0) (spW l) l n) = M ++ [wol (cl 0) (spW l) l n] := last_set
  rw [ls] at ini
  simp only [x_make, x_cons, x_nil, v4, v5, x_bind, ini, x_kmake]
/-- all lines made, one by one -/
theorem lines_ok (k : Nat) (all : List W) (ρ0 : Rho) (hρ : ρ0.length = 7) : ∀ (ls : List (List Nat)) (n : Nat) (M : Mem), (∀ l ∈ ls, l.length ≤ 100000) → cloop all none (.tup [5, 4]) dYes (dMake (cl 0) (Fn cl pt (k + 1) 3) (dCons (dVar 4) (dCons (dVar 5) (dNil)))) ρ0 (enumL n ls) M = .ok ((List.range ls.length).map fun j => W.r (M.length + j)) (M ++ lnI cl n ls)
  | [], n, M, _ => by
    show cloop all none _ _ _ _ [] M = _
    unfold cloop
    rw [if_pos (gOk_none _ _)]
    show R.ok [] M = R.ok [] (M ++ [])
    rw [List.append_nil]
  | l :: ls, n, M, h => by
    match ρ0, hρ with
    | [a0, a1, a2, a3, a4, a5, a6], hρ' =>
      have ih := lines_ok k all [a0, a1, a2, a3, a4, a5, a6] hρ' ls (n + 1) (M ++ [wol (cl 0) (spW l) l n]) fun x hx => h x (List.mem_cons_of_mem _ hx)
      have mk := make_ok (cl := cl) (pt := pt) (n := n) k (h l List.mem_cons_self) [a0, a1, a2, a3, some (.d (.str (txt l))), some (.d (ni n)), a6] rfl rfl M
      have dn : Tg.den (.tup [5, 4]) (.d (.tuple [ni n, .str (txt l)])) [a0, a1, a2, a3, a4, a5, a6] = some [a0, a1, a2, a3, some (.d (.str (txt l))), some (.d (ni n)), a6] := rfl
      show cloop all none _ _ _ _ (.d (.tuple [ni n, .str (txt l)]) :: enumL (n + 1) ls) M = _
      unfold cloop
      rw [if_pos (gOk_none _ _), dn]
      simp only
      rw [x_yes, show noEx (R.ok true M) = R.ok true M from rfl, x_bind, if_pos rfl, mk, show noEx (R.ok (W.r M.length) (M ++ [wol (cl 0) (spW l) l n])) = R.ok (W.r M.length) (M ++ [wol (cl 0) (spW l) l n]) from rfl, x_bind, ih, x_bind, List.length_append, List.length_singleton, List.length_cons, List.append_assoc, List.range_succ_eq_map, List.map_cons, List.map_map]
      congr 1
      congr 1
      apply List.map_congr_left
      intro j _
      show W.r (M.length + 1 + j) = W.r (M.length + (j + 1))
      congr 1
      omega
end

end Pf
namespace Pf
open PySem PySem.Spec PyProof.Rows L2 By
variable {cl pt : Nat → Addr}
abbrev Gt := List Int × List Nat
/-- what the sizes must keep to -/
def lwB (ws : List (List Nat)) (l : List Nat) (n : Nat) : Bool := ws.all (fun w => decide (w.length ≤ 100000)) && (decide (ws.length ≤ 900) && (decide (1 ≤ ws.length) && (decide (l.length ≤ 100000) && decide (n ≤ 100000))))
def netR (T : Nat) : Nat → List (List Nat) → List Gt → Option (Except (Nat × Nat) (List Gt × List Int))
  | _, [], _ => some (.error (T + 1, 1))
  | n, l :: ls, acc => if lwB (spW l) l n = true then (match (spW l)[0]? with
    | none => none
    | some w => if w = wOUT then (match numsF (spW l) 1 with
        | none => none
        | some (.error b) => some (.error (n, col (spW l) l b))
        | some (.ok vs) => if n < T then some (.error (n + 1, 1)) else some (.ok (acc, vs)))
      else (match rgF (spW l) with
        | none => none
        | some (.error b) => some (.error (n, col (spW l) l b))
        | some (.ok g) => netR T (n + 1) ls (acc ++ [g]))) else none
def netF (z : List Nat) : Option (Except (Nat × Nat) (Int × List Gt × List Int)) := match spL z with
  | [] => none
  | l :: ls => if lwB (spW l) l 1 = true then (match riF (spW l) with
    | none => none
    | some (.error b) => some (.error (1, col (spW l) l b))
    | some (.ok v) => match netR (ls.length + 1) 2 ls [] with
      | none => none
      | some (.error e) => some (.error e)
      | some (.ok (gs, os)) => some (.ok (v, gs, os))) else none
def cps (s : Str) : List Nat := s.cps.toList
def place (s : Str) : Option (Nat × Nat) := match netF (cps s) with
  | some (.error e) => some e
  | _ => none
end Pf
namespace Pf
open PySem PySem.Spec PyProof.Rows L2 By
variable {cl pt : Nat → Addr}
noncomputable def nbB (cl pt : Nat → Addr) (k : Nat) : DS := (dIfS (dB (dBin (fEq true) (dBin fIx (dFld (cl 0) "words" (dVar 4)) (dC (.int 0))) (dC (.str "outputs")))) (dExpr (dBM fAppend (dVar 3) (dCons (dMeth (cl 0) "read_gate" (Fn cl pt (k + 8) 6) (dVar 4) dNil) dNil))) (dSeq (dSet 6 (dMeth (cl 0) "numbers_from" (Fn cl pt (k + 8) 8) (dVar 4) (dCons (dC (.int 1)) (dNil))))
        (dSeq (dIfS (dB (dBin fLt (dFld (cl 0) "number" (dVar 4)) (dFL fLen (dCons (dVar 1) dNil)))) (dRaise2 okNN (cl 1) "line" "column" (dBin fAdd (dFld (cl 0) "number" (dVar 4)) (dC (.int 1))) (dC (.int 1))) (dSkip))
        (dRet (dTup (dCons (dVar 2) (dCons (dFL fTuple (dCons (dVar 3) dNil)) (dCons (dVar 6) (dNil)))))))))
/-- the store ahead of a turn -/
abbrev Mg (M I : Mem) (rf tl : List W) (gs : List PyData) : Mem := M ++ (I ++ [O.lst rf, O.lst (gs.map W.d), O.lst tl])
abbrev gD (g : Gt) : PyData := .tuple [vsD g.1, .tuple (g.2.map ni)]
section
variable {M I : Mem} {rf tl : List W}
theorem nb_step (k T n j : Nat) (l : List Nat) (gs : List Gt) (tx v : W) (y4 y5 y6 : Option W) (hj : j < M.length + I.length) (hI : ∀ gs, (Mg M I rf tl gs)[j]? = some (wol (cl 0) (spW l) l n)) (hT : ∀ q, q < 4 → O.tbl (pt q) ∈ M) (hrf : rf.length = T) (hgs : gs.length ≤ 100000) (hl : lwB (spW l) l n = true) :
    ∀ (w : List Nat), (spW l)[0]? = some w →
      (w ≠ wOUT → ∀ r, rgF (spW l) = some r → match r with
        | .error b => nbB cl pt k [some tx, some (.r (M.length + I.length)), some v, some (.r (M.length + I.length + 1)), some (.r j), y5, y6] (Mg M I rf tl (gs.map gD)) = .ex (badC cl n (col (spW l) l b)) (Mg M I rf tl (gs.map gD))
        | .ok g => nbB cl pt k [some tx, some (.r (M.length + I.length)), some v, some (.r (M.length + I.length + 1)), some (.r j), y5, y6] (Mg M I rf tl (gs.map gD)) = .ok (.nx [some tx, some (.r (M.length + I.length)), some v, some (.r (M.length + I.length + 1)), some (.r j), y5, y6]) (Mg M I rf tl ((gs ++ [g]).map gD))) := by
  intro w hw hne r hr
  simp only [lwB, Bool.and_eq_true, decide_eq_true_eq, List.all_eq_true] at hl
  obtain ⟨w1, w2, w3, w4, w5⟩ := hl
  have LW : Lw (spW l) l n := ⟨fun x hx => w1 x hx, by omega, w4, w5⟩
  have hM := hI (gs.map gD)
  have mem : ∀ q, q < 4 → O.tbl (pt q) ∈ Mg M I rf tl (gs.map gD) := fun q hq => List.mem_append_left _ (hT q hq)
  have rg := rg_ok (cl := cl) (pt := pt) k w3 w2 LW (mem 0 (by omega)) (mem 1 (by omega)) (mem 2 (by omega)) (mem 3 (by omega)) hM hr
  have z : ("outputs" : Str) = txt wOUT := rfl
  have wa : fIx (.d (.list ((spW l).map fun w => .str (txt w)))) (.d (.int 0)) (Mg M I rf tl (gs.map gD)) = .ok (.d (.str (txt w))) (Mg M I rf tl (gs.map gD)) := word_at (a := 0) hw
  have hg : (Mg M I rf tl (gs.map gD))[M.length + I.length + 1]? = some (.lst ((gs.map gD).map W.d)) := by
    rw [List.getElem?_append_right (by omega), show M.length + I.length + 1 - M.length = I.length + 1 by omega, List.getElem?_append_right (by omega), Nat.add_sub_cancel_left]
    rfl
  cases r with
  | error b =>
    show nbB cl pt k _ _ = .ex _ _
    unfold nbB
    simp only [x_ifs, x_b, x_bin, x_fld, x_v0, x_vS, x_bind, fld_words hM, x_c, wa, z, ne_txt, decide_eq_false hne, Bool.not_false, x_kb, x_ifT, x_expr, x_bm, x_kbm fAppend hg, x_cons, x_meth, x_kmeth hM (show (List.lookup ("read_gate" : Str) _) = none from rfl), x_nil, rg, x_bindX]
  | ok g =>
    obtain ⟨vs, bs⟩ := g
    show nbB cl pt k _ _ = .ok _ _
    unfold nbB
    have st : (Mg M I rf tl (gs.map gD)).set (M.length + I.length + 1) (.lst ((gs.map gD).map W.d ++ [W.d (gD (vs, bs))])) = Mg M I rf tl ((gs ++ [(vs, bs)]).map gD) := by
      rw [List.set_append_right _ _ (by omega), show M.length + I.length + 1 - M.length = I.length + 1 by omega, List.set_append_right _ _ (by omega), Nat.add_sub_cancel_left, List.map_append]
      show _ = M ++ (I ++ [O.lst rf, O.lst ((gs.map gD ++ [gD (vs, bs)]).map W.d), O.lst tl])
      rw [List.map_append]
      rfl
    have wl : ((gs.map gD).map W.d).length ≤ 1000000 := by rw [List.length_map, List.length_map]; omega
    simp only [x_ifs, x_b, x_bin, x_fld, x_v0, x_vS, x_bind, fld_words hM, x_c, wa, z, ne_txt, decide_eq_false hne, Bool.not_false, x_kb, x_ifT, x_expr, x_bm, x_kbm fAppend hg, x_cons, x_meth, x_kmeth hM (show (List.lookup ("read_gate" : Str) _) = none from rfl), x_nil, rg, x_app hg wl, st]
end

end Pf
namespace Pf
open PySem PySem.Spec PyProof.Rows L2 By
variable {cl pt : Nat → Addr}
section
variable {M I : Mem} {rf tl : List W}
theorem nb_out (k T n j : Nat) (l : List Nat) (gs : List Gt) (tx : W) (dv : PyData) (y5 y6 : Option W) (hj : j < M.length + I.length) (hI : ∀ gs, (Mg M I rf tl gs)[j]? = some (wol (cl 0) (spW l) l n)) (hT : ∀ q, q < 4 → O.tbl (pt q) ∈ M) (hrf : rf.length = T) (hTs : T ≤ 100000) (hl : lwB (spW l) l n = true)
    (hw : (spW l)[0]? = some wOUT) {r : Except Nat (List Int)} (hr : numsF (spW l) 1 = some r) : match r with
      | .error b => nbB cl pt k [some tx, some (.r (M.length + I.length)), some (.d dv), some (.r (M.length + I.length + 1)), some (.r j), y5, y6] (Mg M I rf tl (gs.map gD)) = .ex (badC cl n (col (spW l) l b)) (Mg M I rf tl (gs.map gD))
      | .ok vs => if n < T then nbB cl pt k [some tx, some (.r (M.length + I.length)), some (.d dv), some (.r (M.length + I.length + 1)), some (.r j), y5, y6] (Mg M I rf tl (gs.map gD)) = .ex (badC cl (n + 1) 1) (Mg M I rf tl (gs.map gD))
        else nbB cl pt k [some tx, some (.r (M.length + I.length)), some (.d dv), some (.r (M.length + I.length + 1)), some (.r j), y5, y6] (Mg M I rf tl (gs.map gD)) = .ok (.rt (.d (.tuple [dv, .tuple (gs.map gD), vsD vs]))) (Mg M I rf tl (gs.map gD)) := by
  simp only [lwB, Bool.and_eq_true, decide_eq_true_eq, List.all_eq_true] at hl
  obtain ⟨w1, w2, w3, w4, w5⟩ := hl
  have LW : Lw (spW l) l n := ⟨fun x hx => w1 x hx, by omega, w4, w5⟩
  have hM := hI (gs.map gD)
  have mem : ∀ q, q < 4 → O.tbl (pt q) ∈ Mg M I rf tl (gs.map gD) := fun q hq => List.mem_append_left _ (hT q hq)
  have nm : Fn cl pt (k + 8) 8 [.r j, .d (.int 1)] (Mg M I rf tl (gs.map gD)) = _ := nums_ok (cl := cl) (pt := pt) (k + 1) 1 w3 LW (mem 0 (by omega)) (mem 2 (by omega)) (mem 3 (by omega)) hM hr
  have z : ("outputs" : Str) = txt wOUT := rfl
  have wa : fIx (.d (.list ((spW l).map fun w => .str (txt w)))) (.d (.int 0)) (Mg M I rf tl (gs.map gD)) = .ok (.d (.str (txt wOUT))) (Mg M I rf tl (gs.map gD)) := word_at (a := 0) hw
  have hg : (Mg M I rf tl (gs.map gD))[M.length + I.length + 1]? = some (.lst ((gs.map gD).map W.d)) := by
    rw [List.getElem?_append_right (by omega), show M.length + I.length + 1 - M.length = I.length + 1 by omega, List.getElem?_append_right (by omega), Nat.add_sub_cancel_left]
    rfl
  have hf : (Mg M I rf tl (gs.map gD))[M.length + I.length]? = some (.lst rf) := by
    rw [List.getElem?_append_right (by omega), show M.length + I.length - M.length = I.length by omega, List.getElem?_append_right (by omega), Nat.sub_self]
    rfl
  cases r with
  | error b =>
    show nbB cl pt k _ _ = .ex _ _
    unfold nbB
    simp only [x_ifs, x_b, x_bin, x_fld, x_v0, x_vS, x_bind, fld_words hM, x_c, wa, z, ne_txt, decide_true, Bool.not_true, x_kb, x_ifF, x_seq, x_set, x_meth, x_kmeth hM (show (List.lookup ("numbers_from" : Str) _) = none from rfl), x_cons, x_nil, nm, x_bindX]
  | ok vs =>
    have ln : fLen [.r (M.length + I.length)] (Mg M I rf tl (gs.map gD)) = .ok (.d (ni T)) (Mg M I rf tl (gs.map gD)) := by
      rw [x_lenR hf, hrf]
    have lt : ∀ M, fLt (.d (ni n)) (.d (ni T)) M = .ok (.d (.bool (decide (n < T)))) M := fun M => by
      rw [show fLt (.d (ni n)) (.d (ni T)) M = _ from x_lt]
      exact congrArg (fun b => R.ok (W.d (PyData.bool b)) M) (decide_eq_decide.mpr (by omega))
    simp only
    by_cases q : n < T
    · rw [if_pos q]
      have e1 : ∀ M, fAdd (.d (ni n)) (.d (.int 1)) M = .ok (.d (ni (n + 1))) M := fun M => by
        rw [show fAdd (.d (ni n)) (.d (.int 1)) M = _ from fAdd_ok]
        rfl
      have rs : ∀ ρ : Rho, ρ[4]? = some (some (.r j)) → dRaise2 okNN (cl 1) "line" "column" (dBin fAdd (dFld (cl 0) "number" (dVar 4)) (dC (.int 1))) (dC (.int 1)) ρ (Mg M I rf tl (gs.map gD)) = .ex (badC cl (n + 1) 1) (Mg M I rf tl (gs.map gD)) := fun ρ h4 => by
        have v4 : ∀ M, dVar 4 ρ M = .ok (.r j) M := fun M => by unfold dVar; rw [h4]
        unfold dRaise2
        simp only [x_bin, x_fld, v4, x_bind, fld_number hM, x_c, e1]
        refine if_pos ?_
        show (decide (((n + 1 : Nat) : Int).natAbs.log2 < 1920) && decide ((((1 : Nat)) : Int).natAbs.log2 < 1920)) = true
        rw [decide_eq_true (small_log (by omega)), decide_eq_true (small_log (by omega))]
        rfl
      unfold nbB
      simp only [x_ifs, x_b, x_bin, x_fld, x_v0, x_vS, x_bind, fld_words hM, x_c, wa, z, ne_txt, decide_true, Bool.not_true, x_kb, x_ifF, x_seq, x_set, x_meth, x_kmeth hM (show (List.lookup ("numbers_from" : Str) _) = none from rfl), x_cons, x_nil, nm, x_nx, x_st0, x_stS, fld_number hM, x_fl, ln, lt, decide_eq_true q, x_ifT]
      rw [rs _ rfl]
      rfl
    · rw [if_neg q]
      have tu : fTuple [.r (M.length + I.length + 1)] (Mg M I rf tl (gs.map gD)) = .ok (.d (.tuple (gs.map gD))) (Mg M I rf tl (gs.map gD)) := by
        unfold fTuple rd
        simp only [hg, allD_map, Option.map_some]
      have t3 : ∀ (a b c : PyData) M', kTup [.d a, .d b, .d c] M' = .ok (.d (.tuple [a, b, c])) M' := fun _ _ _ _ => x_ktup rfl rfl
      unfold nbB
      simp only [x_ifs, x_b, x_bin, x_fld, x_v0, x_vS, x_bind, fld_words hM, x_c, wa, z, ne_txt, decide_true, Bool.not_true, x_kb, x_ifF, x_seq, x_set, x_meth, x_kmeth hM (show (List.lookup ("numbers_from" : Str) _) = none from rfl), x_cons, x_nil, nm, x_nx, x_st0, x_stS, fld_number hM, x_fl, ln, lt, decide_eq_false q, x_skip, x_ret, x_tup, tu, t3]
end

end Pf
namespace Pf
open PySem PySem.Spec PyProof.Rows L2 By
variable {cl pt : Nat → Addr}
theorem floop_ex {all : List W} {g : Gd} {tg : Tg} {t : DS} {w : W} {ws : List W} {ρ ρ1 : Rho} {M M2 : Mem} {x : Exn} (hg : gOk g all M) (h1 : tg.den w ρ = some ρ1) (h2 : t ρ1 M = .ex x M2) : floop all g tg t (w :: ws) ρ M = .ex x M2 := by
  conv => lhs; unfold floop
  rw [if_pos hg, h1]
  simp only [h2]
  rfl
def rfW (b : Nat) : Nat → List (List Nat) → List W
  | _, [] => []
  | n, _ :: ls => .r (b + (n - 1)) :: rfW b (n + 1) ls
section
variable {M I : Mem} {rf tl : List W}
theorem nb_loop (k T : Nat) (tx : W) (dv : PyData) (g : Gd) (all : List W) (hg : ∀ gs, gOk g all (Mg M I rf tl gs)) (hT : ∀ q, q < 4 → O.tbl (pt q) ∈ M) (hrf : rf.length = T) (hTs : T ≤ 90000) : ∀ (ls : List (List Nat)) (n : Nat) (acc : List Gt) (y4 y5 y6 : Option W) (r : Except (Nat × Nat) (List Gt × List Int)), 1 ≤ n → acc.length + ls.length ≤ 90000 → n + ls.length ≤ 90000 →
    (∀ q l', ls[q]? = some l' → n - 1 + q < I.length ∧ ∀ gs, (Mg M I rf tl gs)[M.length + (n - 1 + q)]? = some (wol (cl 0) (spW l') l' (n + q))) → netR T n ls acc = some r →
    match r with
    | .error (n', c) => (∃ gs', floop all g (.name 4) (nbB cl pt k) (rfW M.length n ls) [some tx, some (.r (M.length + I.length)), some (.d dv), some (.r (M.length + I.length + 1)), y4, y5, y6] (Mg M I rf tl (acc.map gD)) = .ex (badC cl n' c) (Mg M I rf tl gs')) ∨
        (n' = T + 1 ∧ c = 1 ∧ ∃ gs' ρ', floop all g (.name 4) (nbB cl pt k) (rfW M.length n ls) [some tx, some (.r (M.length + I.length)), some (.d dv), some (.r (M.length + I.length + 1)), y4, y5, y6] (Mg M I rf tl (acc.map gD)) = .ok (.nx ρ') (Mg M I rf tl gs') ∧ ρ'[1]? = some (some (.r (M.length + I.length))))
    | .ok (gs, os) => ∃ gs', floop all g (.name 4) (nbB cl pt k) (rfW M.length n ls) [some tx, some (.r (M.length + I.length)), some (.d dv), some (.r (M.length + I.length + 1)), y4, y5, y6] (Mg M I rf tl (acc.map gD)) = .ok (.rt (.d (.tuple [dv, .tuple (gs.map gD), vsD os]))) (Mg M I rf tl gs')
  | [], n, acc, y4, y5, y6, r, _, _, _, _, h => by
    cases h
    exact .inr ⟨rfl, rfl, _, _, floop_end (hg _), rfl⟩
  | l :: ls, n, acc, y4, y5, y6, r, hn, ha, hns, hI, h => by
    obtain ⟨i1, i2⟩ := hI 0 l rfl
    rw [Nat.add_zero] at i1 i2
    rw [Nat.add_zero] at i2
    rw [List.length_cons] at ha hns
    unfold netR at h
    by_cases hl : lwB (spW l) l n = true
    · rw [if_pos hl] at h
      cases hw : (spW l)[0]? with
      | none => rw [hw] at h; cases h
      | some w =>
        rw [hw] at h
        simp only at h
        by_cases q : w = wOUT
        · subst q
          rw [if_pos rfl] at h
          cases hnum : numsF (spW l) 1 with
          | none => rw [hnum] at h; cases h
          | some r1 =>
            have st := nb_out (cl := cl) (pt := pt) (M := M) (I := I) (rf := rf) (tl := tl) k T n (M.length + (n - 1)) l acc tx dv y5 y6 (by omega) i2 hT hrf (by omega) hl hw hnum
            rw [hnum] at h
            cases r1 with
            | error b =>
              cases h
              exact .inl ⟨_, floop_ex (hg _) den_name st⟩
            | ok vs =>
              simp only at h st
              by_cases q2 : n < T
              · rw [if_pos q2] at h st
                cases h
                exact .inl ⟨_, floop_ex (hg _) den_name st⟩
              · rw [if_neg q2] at h st
                cases h
                exact ⟨_, floop_ret (hg _) den_name st⟩
        · rw [if_neg q] at h
          cases hrg : rgF (spW l) with
          | none => rw [hrg] at h; cases h
          | some r1 =>
            have st := nb_step (cl := cl) (pt := pt) (M := M) (I := I) (rf := rf) (tl := tl) k T n (M.length + (n - 1)) l acc tx (.d dv) y4 y5 y6 (by omega) i2 hT hrf (by omega) hl w hw q r1 hrg
            rw [hrg] at h
            cases r1 with
            | error b =>
              cases h
              exact .inl ⟨_, floop_ex (hg _) den_name st⟩
            | ok g1 =>
              simp only at h st
              have ih := nb_loop k T tx dv g all hg hT hrf hTs ls (n + 1) (acc ++ [g1]) (some (.r (M.length + (n - 1)))) y5 y6 r (by omega) (by rw [List.length_append, List.length_singleton]; omega) (by omega) (fun q l' hq => by
                have := hI (q + 1) l' (by rw [List.getElem?_cons_succ]; exact hq)
                rw [show n + 1 - 1 + q = n - 1 + (q + 1) by omega, show n + 1 + q = n + (q + 1) by omega]
                exact this) h
              have fs := fun X => floop_step (all := all) (g := g) (tg := .name 4) (t := nbB cl pt k) (ws := X) (w := .r (M.length + (n - 1))) (ρ := [some tx, some (.r (M.length + I.length)), some (.d dv), some (.r (M.length + I.length + 1)), y4, y5, y6]) (hg _) den_name st
              cases r with
              | error e =>
                obtain ⟨n', c⟩ := e
                rcases ih with ⟨gs', e1⟩ | ⟨a1, a2, gs', ρ', e1, e2⟩
                · exact .inl ⟨gs', (fs _).trans e1⟩
                · exact .inr ⟨a1, a2, gs', ρ', (fs _).trans e1, e2⟩
              | ok go =>
                obtain ⟨gs, os⟩ := go
                obtain ⟨gs', e1⟩ := ih
                exact ⟨gs', (fs _).trans e1⟩
    · rw [if_neg hl] at h
      cases h
end

end Pf
namespace Pf
open PySem PySem.Spec PyProof.Rows L2 By
variable {cl pt : Nat → Addr}
theorem def_exJ {n N : Nat} {body : DS} {ws : List W} {M J : Mem} {e : Exn} (hn : ws.length = n) (h : body (ws.map some ++ List.replicate (N - n) none) M = .ex e (M ++ J)) : defD n N body ws M = .ex e M := by
  unfold defD
  rw [if_pos hn, h]
  simp only [kept_app, if_true, List.take_left]
theorem refs_rf (b : Nat) : ∀ (ls : List (List Nat)) (n : Nat), 1 ≤ n → rfW b n ls = (List.range ls.length).map fun j => W.r (b + (n - 1) + j)
  | [], _, _ => rfl
  | l :: ls, n, hn => by
    show W.r (b + (n - 1)) :: rfW b (n + 1) ls = _
    rw [refs_rf b ls (n + 1) (by omega), List.length_cons, List.range_succ_eq_map, List.map_cons, List.map_map]
    congr 1
    apply List.map_congr_left
    intro j _
    show W.r (b + (n + 1 - 1) + j) = W.r (b + (n - 1) + (j + 1))
    congr 1
    omega
theorem lnI_at : ∀ (ls : List (List Nat)) (n q : Nat) (l' : List Nat), ls[q]? = some l' → (lnI cl n ls)[q]? = some (wol (cl 0) (spW l') l' (n + q))
  | l :: ls, n, 0, l', h => by cases h; rfl
  | l :: ls, n, q + 1, l', h => by
    have := lnI_at ls (n + 1) q l' h
    show (lnI cl (n + 1) ls)[q]? = _
    rw [this, show n + 1 + q = n + (q + 1) by omega]
section
variable {M : Mem}
theorem net_ok (k : Nat) (z : List Nat) (hz : z.length ≤ 100000) (hs : (spL z).all (fun l => decide (l.length ≤ 100000)) = true) (hn : (spL z).length ≤ 80000) (hT : ∀ q, q < 4 → O.tbl (pt q) ∈ M) {r : Except (Nat × Nat) (Int × List Gt × List Int)} (hr : netF z = some r) :
    Fn cl pt (k + 10) 2 [.d (.str (txt z))] M = match r with
    | .error (n, c) => .ex (badC cl n c) M
    | .ok (v, gs, os) => .ok (.d (.tuple [.int v, .tuple (gs.map gD), vsD os])) M := by
  unfold netF at hr
  cases hls : spL z with
  | nil => rw [hls] at hr; cases hr
  | cons l ls =>
    rw [hls] at hr hs hn
    simp only at hr
    rw [List.length_cons] at hn
    have lens : ∀ x ∈ l :: ls, x.length ≤ 100000 := fun x hx => of_decide_eq_true (List.all_eq_true.mp hs x hx)
    by_cases hl : lwB (spW l) l 1 = true
    · rw [if_pos hl] at hr
      have I0 := lnI_len (cl := cl) (l :: ls) 1
      have sp := sp_lines hz M
      rw [hls] at sp
      have li := lines_ok (cl := cl) (pt := pt) (k + 7) (enumL 1 (l :: ls)) [some (.d (.str (txt z))), none, none, none, none, none, none] rfl (l :: ls) 1 M lens
      have lc : ∀ (ρ : Rho), ρ = [some (.d (.str (txt z))), none, none, none, none, none, none] → dLcM (dEnumS (dTx fSplit (dVar 0) (dC (.str "\n"))) (dC (.int 1))) (.tup [5, 4]) (dYes) (dMake (cl 0) (Fn cl pt (k + 8) 3) (dCons (dVar 4) (dCons (dVar 5) (dNil)))) [5, 4] ρ M = .ok (.r (M ++ lnI cl 1 (l :: ls)).length) (M ++ lnI cl 1 (l :: ls) ++ [.lst ((List.range (l :: ls).length).map fun j => W.r (M.length + j))]) := fun ρ hρ => by
        subst hρ
        have enu : dEnumS (dTx fSplit (dVar 0) (dC (.str "\n"))) (dC (.int 1)) [some (.d (.str (txt z))), none, none, none, none, none, none] M = .ok (enumL 1 (l :: ls), none) M := by
          unfold dEnumS
          rw [x_tx, x_v0, x_bind, x_ktx, x_c, x_bind, sp, x_bind, x_c, x_bind]
          show (if -1000000 ≤ (1 : Int) ∧ (1 : Int) ≤ 1000000 ∧ isD (.d (.list ((l :: ls).map fun l => PyData.str (txt l)))) = true then R.ok (enumDS 1 ((l :: ls).map fun l => .str (txt l)), none) M else .bot) = _
          rw [if_pos ⟨by omega, by omega, rfl⟩]
          exact congrArg (fun w => R.ok (w, none) M) (enum_eq (l :: ls) 1)
        rw [x_lcm, x_lcw, enu, x_bind]
        show (cloop (enumL 1 (l :: ls)) none (.tup [5, 4]) dYes _ [some (.d (.str (txt z))), none, none, none, none, none, none] (enumL 1 (l :: ls)) M).bind kLcM = _
        rw [li, x_bind, x_klcm (by rw [List.length_map, List.length_range, List.length_cons]; omega)]
      obtain ⟨I, hI⟩ : ∃ I, I = lnI cl 1 (l :: ls) := ⟨_, rfl⟩
      obtain ⟨rf, hrf⟩ : ∃ rf : List W, rf = (List.range (l :: ls).length).map fun j => W.r (M.length + j) := ⟨_, rfl⟩
      rw [← hI] at I0 lc
      rw [← hrf] at lc
      rw [List.length_cons] at I0
      have jl : (M ++ I).length = M.length + I.length := List.length_append
      rw [jl] at lc
      have rfl_ : rf.length = ls.length + 1 := by rw [hrf, List.length_map, List.length_range, List.length_cons]
      have at_I : ∀ (X : Mem) (q : Nat) (l' : List Nat), (l :: ls)[q]? = some l' → (M ++ (I ++ X))[M.length + q]? = some (wol (cl 0) (spW l') l' (1 + q)) := fun X q l' hq => by
        have := lnI_at (cl := cl) (l :: ls) 1 q l' hq
        rw [← hI] at this
        rw [List.getElem?_append_right (by omega), Nat.add_sub_cancel_left, List.getElem?_append_left (List.getElem?_eq_some_iff.mp this).1, this]
      have eA : M ++ I ++ [O.lst rf] = M ++ (I ++ [O.lst rf]) := List.append_assoc ..
      rw [eA] at lc
      have hl' := hl
      simp only [lwB, Bool.and_eq_true, decide_eq_true_eq, List.all_eq_true] at hl'
      obtain ⟨w1, w2, w3, w4, w5⟩ := hl'
      have LW : Lw (spW l) l 1 := ⟨fun x hx => w1 x hx, by omega, w4, w5⟩
      have hM0 : (M ++ (I ++ [O.lst rf]))[M.length + 0]? = some (wol (cl 0) (spW l) l 1) := at_I [O.lst rf] 0 l rfl
      have mem : ∀ (X : Mem) q, q < 4 → O.tbl (pt q) ∈ M ++ X := fun X q hq => List.mem_append_left _ (hT q hq)
      have hjl : (M ++ (I ++ [O.lst rf]))[M.length + I.length]? = some (.lst rf) := by
        rw [List.getElem?_append_right (by omega), Nat.add_sub_cancel_left, List.getElem?_append_right (Nat.le_refl _), Nat.sub_self]
        rfl
      have ix0 : fIx (.r (M.length + I.length)) (.d (.int 0)) (M ++ (I ++ [O.lst rf])) = .ok (.r (M.length + 0)) (M ++ (I ++ [O.lst rf])) := x_ixR hjl (by rw [hrf, List.length_cons, List.range_succ_eq_map]; rfl)
      cases hri : riF (spW l) with
      | none => rw [hri] at hr; cases hr
      | some r1 =>
        have ri := ri_ok (cl := cl) (pt := pt) (k + 2) w3 LW (mem _ 0 (by omega)) (mem _ 3 (by omega)) hM0 hri
        have ri' : Fn cl pt (k + 8) 5 [.r (M.length + 0)] (M ++ (I ++ [O.lst rf])) = _ := ri
        rw [hri] at hr
        cases r1 with
        | error b =>
          cases hr
          show _ = R.ex _ _
          rw [show k + 10 = k + 6 + 4 by omega, fn_net_by]
          refine def_exJ (J := I ++ [O.lst rf]) rfl ?_
          show den_net_by cl pt (Fn cl pt (k + 8)) [some (.d (.str (txt z))), none, none, none, none, none, none] M = _
          unfold den_net_by
          simp only [x_seq, x_ifs, x_not, x_b, x_un, x_v0, x_bind, x_isStr, x_kb, Bool.not_true, x_ifF, x_skip, x_nx, x_set]
          rw [lc _ rfl]
          simp only [x_bind, x_nx, x_st0, x_stS, x_seq, x_set, x_meth, x_bin, x_v0, x_vS, x_c, ix0, x_kmeth hM0 (show (List.lookup ("read_inputs" : Str) _) = none from rfl), x_nil, ri', x_bindX]
        | ok v =>
          simp only at hr
          obtain ⟨tl, htl⟩ : ∃ tl : List W, tl = rfW M.length 2 ls := ⟨_, rfl⟩
          have cutr : cut rf (some 1) none = tl := by
            rw [show (1 : Int) = ((1 : Nat) : Int) from rfl, cut_drop _ _ (by omega), hrf, List.length_cons, List.range_succ_eq_map, List.map_cons, List.drop_one, List.tail_cons, List.map_map, htl, refs_rf _ _ _ (by omega)]
            apply List.map_congr_left
            intro j _
            show W.r (M.length + (j + 1)) = W.r (M.length + (2 - 1) + j)
            congr 1
            omega
          cases hnr : netR (ls.length + 1) 2 ls [] with
          | none => rw [hnr] at hr; cases hr
          | some r2 =>
            rw [hnr] at hr
            have hg : ∀ gs, gOk (some (M.length + I.length + 2, tl)) tl (Mg M I rf tl gs) := fun gs a b h => by
              cases h
              rw [List.getElem?_append_right (by omega), show M.length + I.length + 2 - M.length = I.length + 2 by omega, List.getElem?_append_right (by omega), Nat.add_sub_cancel_left]
              rfl
            have lo := nb_loop (cl := cl) (pt := pt) (M := M) (I := I) (rf := rf) (tl := tl) k (ls.length + 1) (.d (.str (txt z))) (.int v) (some (M.length + I.length + 2, tl)) tl hg hT rfl_ (by omega) ls 2 [] none none none r2 (by omega) (by rw [List.length_nil]; omega) (by omega) (fun q l' hq => ⟨by have := (List.getElem?_eq_some_iff.mp hq).1; omega, fun gs => by
              have := at_I [O.lst rf, .lst (gs.map W.d), .lst tl] (q + 1) l' (by rw [List.getElem?_cons_succ]; exact hq)
              rw [show M.length + (2 - 1 + q) = M.length + (q + 1) by omega, show 2 + q = 1 + (q + 1) by omega]
              exact this⟩) hnr
            rw [← htl] at lo
            have aj : (M ++ (I ++ [O.lst rf])).length = M.length + I.length + 1 := by rw [List.length_append, List.length_append, List.length_singleton]; omega
            have hj2 : (M ++ (I ++ [O.lst rf]) ++ [O.lst []])[M.length + I.length]? = some (.lst rf) := by
              rw [List.getElem?_append_left (by omega)]
              exact hjl
            have eG : M ++ (I ++ [O.lst rf]) ++ [O.lst []] ++ [O.lst tl] = Mg M I rf tl (([] : List Gt).map gD) := by
              show _ = M ++ (I ++ [O.lst rf, O.lst [], O.lst tl])
              simp
            have ahead : ∀ x, floop tl (some (M.length + I.length + 2, tl)) (.name 4) (nbB cl pt k) tl [some (.d (.str (txt z))), some (.r (M.length + I.length)), some (.d (.int v)), some (.r (M.length + I.length + 1)), none, none, none] (Mg M I rf tl (([] : List Gt).map gD)) = x →
                den_net_by cl pt (Fn cl pt (k + 8)) [some (.d (.str (txt z))), none, none, none, none, none, none] M = x.bind (kSeq (dRaise2 okNN (cl 1) "line" "column" (dBin fAdd (dFL fLen (dCons (dVar 1) dNil)) (dC (.int 1))) (dC (.int 1)))) := fun x hx => by
              unfold den_net_by
              simp only [x_seq, x_ifs, x_not, x_b, x_un, x_v0, x_bind, x_isStr, x_kb, Bool.not_true, x_ifF, x_skip, x_nx, x_set]
              rw [lc _ rfl]
              simp only [x_bind, x_nx, x_st0, x_stS, x_seq, x_set, x_meth, x_bin, x_v0, x_vS, x_c, ix0, x_kmeth hM0 (show (List.lookup ("read_inputs" : Str) _) = none from rfl), x_nil, ri', x_lstM, x_lstM0, aj]
              have sl : dSeqI (dSlM (dVar 1) (dPart (dC (.int 1))) (dNoPart)) [some (.d (.str (txt z))), some (.r (M.length + I.length)), some (.d (.int v)), some (.r (M.length + I.length + 1)), none, none, none] (M ++ (I ++ [O.lst rf]) ++ [O.lst []]) = .ok (tl, some (M.length + I.length + 2, tl)) (Mg M I rf tl (([] : List Gt).map gD)) := by
                rw [x_seqi]
                unfold dSlM
                rw [x_vS, x_v0, x_bind, x_part, x_c, x_bind, x_kpart, x_bind, x_nopart, x_bind]
                unfold fSlM
                simp only [hj2, cutr]
                rw [x_bind, eG, List.length_append, aj, List.length_singleton]
                exact x_ksr (by
                  have := hg (([] : List Gt).map gD) _ _ rfl
                  exact this)
              rw [x_for, sl, x_bind]
              exact congrArg (fun z => R.bind z _) hx
            rw [show k + 10 = k + 6 + 4 by omega, fn_net_by]
            cases r2 with
            | error e =>
              obtain ⟨n', c⟩ := e
              cases hr
              show _ = R.ex _ _
              rcases lo with ⟨gs', e1⟩ | ⟨rfl, rfl, gs', ρ', e1, e2⟩
              · exact def_exJ (J := I ++ [O.lst rf, O.lst (gs'.map W.d), O.lst tl]) rfl ((ahead _ e1).trans rfl)
              · refine def_exJ (J := I ++ [O.lst rf, O.lst (gs'.map W.d), O.lst tl]) rfl ((ahead _ e1).trans ?_)
                have v1 : ∀ M', dVar 1 ρ' M' = .ok (.r (M.length + I.length)) M' := fun M' => by unfold dVar; rw [e2]
                have hf : (Mg M I rf tl gs')[M.length + I.length]? = some (.lst rf) := by
                  rw [List.getElem?_append_right (by omega), Nat.add_sub_cancel_left, List.getElem?_append_right (by omega), Nat.sub_self]
                  rfl
                have ln : fLen [.r (M.length + I.length)] (Mg M I rf tl gs') = .ok (.d (ni (ls.length + 1))) (Mg M I rf tl gs') := by
                  rw [x_lenR hf, rfl_]
                have e3 : ∀ M, fAdd (.d (ni (ls.length + 1))) (.d (.int 1)) M = .ok (.d (ni (ls.length + 1 + 1))) M := fun M => by
                  rw [show fAdd (.d (ni (ls.length + 1))) (.d (.int 1)) M = _ from fAdd_ok]
                  rfl
                rw [x_bind, x_nx]
                unfold dRaise2
                simp only [x_bin, x_fl, x_cons, x_nil, v1, x_bind, ln, x_c, e3]
                refine if_pos ?_
                show (decide (((ls.length + 1 + 1 : Nat) : Int).natAbs.log2 < 1920) && decide ((((1 : Nat)) : Int).natAbs.log2 < 1920)) = true
                rw [decide_eq_true (small_log (by omega)), decide_eq_true (small_log (by omega))]
                rfl
            | ok go =>
              obtain ⟨gs, os⟩ := go
              cases hr
              obtain ⟨gs', e1⟩ := lo
              exact def_of rfl (w := .d (.tuple [.int v, .tuple (gs.map gD), vsD os])) (M' := M ++ (I ++ [O.lst rf, O.lst (gs'.map W.d), O.lst tl])) ((ahead _ e1).trans rfl) (finD_app rfl)
    · rw [if_neg hl] at hr
      cases hr
end

end Pf
namespace Pf
open PySem PySem.Spec PyProof.Rows L2 By
variable {cl pt : Nat → Addr}
theorem lc_ok {γ : Type} {ti : DI} {tg : Tg} {te : DE} {vs : List Nat} {ρ : Rho} {M : Mem} {g : Gd} (inj : γ → W) (f : γ → PyData) (xs : List γ) (hti : ti ρ M = .ok (xs.map inj, g) M) (hg : gOk g (xs.map inj) M) (hl : xs.length ≤ 1000000)
    (hs : ∀ x ∈ xs, ∃ ρ1, tg.den (inj x) (wipeR ρ vs) = some ρ1 ∧ te ρ1 M = .ok (.d (f x)) M) : dLc ti tg dYes te vs ρ M = .ok (.d (.list (xs.map f))) M := by
  rw [x_lc, x_lcw, hti, x_bind, cloop_map inj (fun _ => true) (fun x => W.d (f x)) hg xs fun x hx => by
    obtain ⟨ρ1, h1, h2⟩ := hs x hx
    exact ⟨ρ1, h1, x_yes, fun _ => h2⟩]
  have e : (xs.filter fun _ => true).map (fun x => W.d (f x)) = (xs.map f).map .d := by
    rw [List.filter_eq_self.mpr (fun _ _ => rfl), List.map_map]
    rfl
  rw [e, x_bind, x_klc (by rw [List.length_map]; exact hl)]
theorem jl_len (y : List Nat) : ∀ ps : List (List Nat), (TL.joinL y ps).length ≤ (ps.map (·.length)).sum + ps.length * y.length
  | [] => Nat.zero_le _
  | [x] => by show x.length ≤ _; simp
  | x :: z :: r => by
    have ih := jl_len y (z :: r)
    show (x ++ (y ++ TL.joinL y (z :: r))).length ≤ _
    rw [List.length_append, List.length_append, List.map_cons, List.sum_cons, List.length_cons, Nat.add_mul]
    omega
theorem jn_ok (y : List Nat) (ls : List (List Nat)) (h : (ls.map (·.length)).sum + ls.length * y.length ≤ 1000000) (M : Mem) : fJoin (txt y) (.d (.list (ls.map fun l => .str (txt l)))) M = .ok (.d (.str (txt (TL.joinL y ls)))) M := by
  have e : (ls.map fun l => PyData.str (txt l)) = (ls.map txt).map .str := by rw [List.map_map]; rfl
  have e2 : (ls.map txt).map (·.length) = ls.map (·.length) := by
    rw [List.map_map]
    apply List.map_congr_left
    intro l _
    exact txt_len l
  rw [e, x_join (by rw [e2, List.length_map, txt_len]; exact h)]
  have e3 : Txt.join (txt y) (ls.map txt) = txt (TL.joinL y ls) := by
    have a := TL.tl_join (txt y) (ls.map txt)
    rw [← TL.join_eq] at a
    have b : (ls.map txt).map TL.tl = ls := by
      rw [List.map_map]
      have : (TL.tl ∘ txt) = id := by funext l; show l.toArray.toList = l; simp
      rw [this, List.map_id]
    have c : TL.tl (txt y) = y := by show y.toArray.toList = y; simp
    rw [b, c] at a
    have d : ∀ s : Str, s = txt (TL.tl s) := fun s => by
      show s = ⟨s.cps.toList.toArray⟩
      simp
    rw [d (Txt.join (txt y) (ls.map txt)), a]
  rw [e3]
/-- a word: a text, or a number -/
inductive Wo where
  | t (l : List Nat)
  | n (k : Nat)
def Wo.d : Wo → PyData
  | .t l => .str (txt l)
  | .n k => ni k
def Wo.x : Wo → List Nat
  | .t l => l
  | .n k => TL.numL k
theorem str_n (k : Nat) : Str.ofString (toString ((k : Nat) : Int)) = txt (TL.numL k) := by
  have a := TL.tl_num k
  have d : ∀ s : Str, s = txt (TL.tl s) := fun s => by
    show s = ⟨s.cps.toList.toArray⟩
    simp
  rw [d (Str.ofString (toString ((k : Nat) : Int))), a]
theorem str_wo (w : Wo) (M : Mem) (h : ∀ k, w = .n k → k ≤ 100000) : fStrX [.d w.d] M = .ok (.d (.str (txt w.x))) M := by
  cases w with
  | t l => rfl
  | n k =>
    show (if ((k : Nat) : Int).natAbs.log2 < 1920 then R.ok (W.d (.str (Str.ofString (toString ((k : Nat) : Int))))) M else .bot) = _
    rw [if_pos (small_log (by have := h k rfl; omega)), str_n]
    rfl
theorem line_ok (k : Nat) (ws : List Wo) (hn : ∀ w ∈ ws, ∀ k, w = .n k → k ≤ 100000) (hl : ((ws.map Wo.x).map (·.length)).sum + (ws.map Wo.x).length * 1 ≤ 1000000) (M : Mem) : Fn cl pt (k + 1) 1 [.d (.tuple (ws.map Wo.d))] M = .ok (.d (.str (txt (TL.joinL [32] (ws.map Wo.x))))) M := by
  rw [fn_line_of]
  refine def_of rfl (w := .d (.str (txt (TL.joinL [32] (ws.map Wo.x))))) (M' := M) ?_ (finD_d _ _)
  show den_line_of cl pt (Fn cl pt k) [some (.d (.tuple (ws.map Wo.d))), none] M = _
  unfold den_line_of
  have lc := lc_ok (ti := dSeqI (dVar 0)) (tg := .name 1) (te := dFL fStrX (dCons (dVar 1) dNil)) (vs := [1]) (ρ := [some (.d (.tuple (ws.map Wo.d))), none]) (M := M) (g := none) (fun w : Wo => W.d w.d) (fun w => .str (txt w.x)) ws (by
    simp only [x_seqi, x_v0, x_bind, x_kst, List.map_map]
    rfl) (gOk_none _ _) (by rw [List.length_map] at hl; omega) (fun w hw => by
    refine ⟨_, den_name, ?_⟩
    simp only [wipeR, x_fl, x_cons, x_nil, x_v0, x_vS, x_st0, x_stS, x_bind, str_wo w M (hn w hw)])
  have e4 : (ws.map fun w => PyData.str (txt w.x)) = ((ws.map Wo.x).map fun l => PyData.str (txt l)) := by rw [List.map_map]; rfl
  rw [e4] at lc
  have jn := jn_ok [32] (ws.map Wo.x) hl M
  have z : (" " : Str) = txt [32] := rfl
  rw [x_ret, x_tx, x_c, x_bind, x_ktx, lc, x_bind, z]
  rw [show fJoin (txt [32]) (.d (.list ((ws.map Wo.x).map fun l => .str (txt l)))) M = _ from jn, x_bind]

end Pf
namespace Pf
open PySem PySem.Spec PyProof.Rows L2 By
variable {cl pt : Nat → Addr}
section
variable {M : Mem}
theorem net_no (k : Nat) (d : PyData) (hd : isStrD (.d d) = some false) : Fn cl pt (k + 4) 2 [.d d] M = .ex (badC cl 0 0) M := by
  rw [fn_net_by]
  refine def_ex rfl ?_
  show den_net_by cl pt (Fn cl pt (k + 2)) [some (.d d), none, none, none, none, none, none] M = _
  unfold den_net_by
  have is : fIsStr (.d d) M = .ok (.d (.bool false)) M := by
    unfold fIsStr
    rw [hd]
  simp only [x_seq, x_ifs, x_not, x_b, x_un, x_v0, x_bind, is, x_kb, Bool.not_false, x_ifT]
  rfl
theorem place_ex (k : Nat) (d : PyData) (n c : Nat) (h : Fn cl pt k 2 [.d d] M = .ex (badC cl n c) M) : Fn cl pt (k + 1) 15 [.d d] M = .ok (.d (.tuple [ni n, ni c])) M := by
  rw [fn__law_place]
  refine def_of rfl (w := .d (.tuple [ni n, ni c])) (M' := M) ?_ (finD_d _ _)
  show den__law_place cl pt (Fn cl pt k) [some (.d d), none] M = _
  unfold den__law_place
  have t : dTryE (cl 1) "line" "column" (dFL (Fn cl pt k 2) (dCons (dVar 0) (dNil))) (dSkip) [some (.d d), none] M = .ok (.rt (.d (.tuple [ni n, ni c]))) M := by
    unfold dTryE
    rw [x_fl, x_cons, x_v0, x_bind, x_nil, x_bind, x_bind, h]
    exact if_pos rfl
  rw [x_seq, t, x_bind]
  rfl
end

end Pf
namespace Pf
open PySem PySem.Spec PyProof.Rows L2 By
variable {cl pt : Nat → Addr}
abbrev Gn := List Nat × List Nat
abbrev gN (g : Gn) : Gt := (g.1.map fun n => ((n : Nat) : Int), g.2)
abbrev gE (g : Gn) : PyData := .tuple [.tuple (g.1.map ni), .tuple (g.2.map ni)]
abbrev ntD (v : Nat) (gs : List Gn) (os : List Nat) : PyData := .tuple [ni v, .tuple (gs.map gE), .tuple (os.map ni)]
theorem vs_ni (ns : List Nat) : (ns.map fun n => ((n : Nat) : Int)).map PyData.int = ns.map ni := by rw [List.map_map]; rfl
theorem gD_gN (g : Gn) : gD (gN g) = gE g := by
  show PyData.tuple [.tuple ((g.1.map fun n => ((n : Nat) : Int)).map .int), _] = _
  rw [vs_ni]
def bitsL (bs : List Nat) : List Nat := TL.joinL [] (bs.map TL.numL)
def wsI (v : Nat) : List Wo := [.t wINP, .n v]
def wsG (g : Gn) : List Wo := .t wGAT :: .t (bitsL g.2) :: g.1.map .n
def wsO (os : List Nat) : List Wo := .t wOUT :: os.map .n
def lnW (ws : List Wo) : List Nat := TL.joinL [32] (ws.map Wo.x)
def ntL (v : Nat) (gs : List Gn) (os : List Nat) : List (List Nat) := (lnW (wsI v) :: gs.map fun g => lnW (wsG g)) ++ [lnW (wsO os)]
/-- what the law draws -/
structure Gok (g : Gn) : Prop where
  l : g.1.length ≤ 3
  s : ∀ s ∈ g.1, s < 1000
  w : g.2.length = 2 ^ g.1.length
  b : ∀ b ∈ g.2, b < 2
def numB (n : Nat) : Bool := decide ((TL.numL n).length ≤ 3) && (figs (TL.numL n) && (decide (PySem.intText? (txt (TL.numL n)) = some (n : Int)) && (!(TL.numL n).contains 32 && !(TL.numL n).contains 10)))
theorem numB_all : (List.range 1000).all numB = true := by decide +kernel
structure Nok (n : Nat) : Prop where
  len : (TL.numL n).length ≤ 3
  f : figs (TL.numL n) = true
  i : PySem.intText? (txt (TL.numL n)) = some (n : Int)
  sp : 32 ∉ TL.numL n
  nl : 10 ∉ TL.numL n
theorem nok {n : Nat} (h : n < 1000) : Nok n := by
  have := List.all_eq_true.mp numB_all n (List.mem_range.mpr h)
  unfold numB at this
  simp only [Bool.and_eq_true, decide_eq_true_eq, Bool.not_eq_true'] at this
  obtain ⟨a, b, c, d, e⟩ := this
  refine ⟨a, b, c, fun m => ?_, fun m => ?_⟩
  · rw [List.contains_iff_mem.mpr m] at d
    cases d
  · rw [List.contains_iff_mem.mpr m] at e
    cases e
theorem numL_bit {b : Nat} (h : b < 2) : TL.numL b = [48 + b] := TL.numL_lt (by omega)
theorem joinL_nil : ∀ ps : List (List Nat), TL.joinL [] ps = ps.flatten
  | [] => rfl
  | [x] => by show x = [x].flatten; simp
  | x :: z :: r => by
    show x ++ ([] ++ TL.joinL [] (z :: r)) = _
    rw [joinL_nil (z :: r)]
    rfl
theorem bits_eq : ∀ bs : List Nat, (∀ b ∈ bs, b < 2) → bitsL bs = bs.map (48 + ·)
  | [], _ => rfl
  | b :: bs, h => by
    have ih := bits_eq bs fun x hx => h x (List.mem_cons_of_mem _ hx)
    unfold bitsL at ih ⊢
    rw [joinL_nil] at ih ⊢
    rw [List.map_cons, List.flatten_cons, ih, numL_bit (h b List.mem_cons_self)]
    rfl
/-- small words -/
structure Small (ws : List Wo) : Prop where
  n : ∀ w ∈ ws, w.x.length ≤ 8 ∧ ∀ k, w = .n k → k ≤ 100000
  l : ws.length ≤ 6
theorem small_n {ns : List Nat} (h : ∀ n ∈ ns, n < 1000) : ∀ w ∈ ns.map Wo.n, w.x.length ≤ 8 ∧ ∀ k, w = .n k → k ≤ 100000 := fun w hw => by
  obtain ⟨n, hn, rfl⟩ := List.mem_map.mp hw
  have a := h n hn
  refine ⟨?_, fun k e => ?_⟩
  · have := (nok a).len
    show (TL.numL n).length ≤ 8
    omega
  · cases e
    omega
theorem small_t {l : List Nat} (h : l.length ≤ 8) : (Wo.t l).x.length ≤ 8 ∧ ∀ k, Wo.t l = .n k → k ≤ 100000 := ⟨h, fun k e => by cases e⟩
theorem small_I {v : Nat} (h : v < 1000) : Small (wsI v) := ⟨fun w hw => by
  rcases List.mem_cons.mp hw with q | q
  · rw [q]
    exact small_t (by decide)
  · exact small_n (ns := [v]) (fun n hn => by rw [List.mem_singleton.mp hn]; exact h) w q, by show 2 ≤ 6; omega⟩
theorem pw8 {n : Nat} (h : n ≤ 3) : 2 ^ n ≤ 8 := Nat.pow_le_pow_right (n := 2) (by decide) h
theorem bits_len {bs : List Nat} (h : ∀ b ∈ bs, b < 2) : (bitsL bs).length = bs.length := by rw [bits_eq bs h, List.length_map]
theorem small_G {g : Gn} (h : Gok g) : Small (wsG g) := ⟨fun w hw => by
  rcases List.mem_cons.mp hw with q | q
  · rw [q]
    exact small_t (by decide)
  rcases List.mem_cons.mp q with q | q
  · rw [q]
    refine small_t ?_
    rw [bits_len h.b, h.w]
    exact pw8 h.l
  · exact small_n h.s w q, by
  have := h.l
  show (g.1.map Wo.n).length + 1 + 1 ≤ 6
  rw [List.length_map]
  omega⟩
theorem small_O {os : List Nat} (h : ∀ o ∈ os, o < 1000) (hl : os.length ≤ 3) : Small (wsO os) := ⟨fun w hw => by
  rcases List.mem_cons.mp hw with q | q
  · rw [q]
    exact small_t (by decide)
  · exact small_n h w q, by
  show (os.map Wo.n).length + 1 ≤ 6
  rw [List.length_map]
  omega⟩
theorem sum_le (b : Nat) : ∀ ls : List (List Nat), (∀ l ∈ ls, l.length ≤ b) → (ls.map (·.length)).sum ≤ ls.length * b
  | [], _ => Nat.zero_le _
  | l :: ls, h => by
    have ih := sum_le b ls fun x hx => h x (List.mem_cons_of_mem _ hx)
    have := h l List.mem_cons_self
    rw [List.map_cons, List.sum_cons, List.length_cons, Nat.add_mul]
    omega
theorem small_sum {ws : List Wo} (h : Small ws) : ((ws.map Wo.x).map (·.length)).sum ≤ 48 := by
  have := sum_le 8 (ws.map Wo.x) fun l hl => by
    obtain ⟨w, hw, rfl⟩ := List.mem_map.mp hl
    exact (h.n w hw).1
  have := h.l
  rw [List.length_map] at *
  omega
theorem line_small (k : Nat) {ws : List Wo} (h : Small ws) (M : Mem) : Fn cl pt (k + 1) 1 [.d (.tuple (ws.map Wo.d))] M = .ok (.d (.str (txt (lnW ws)))) M :=
  line_ok (cl := cl) (pt := pt) k ws (fun w hw => (h.n w hw).2) (by
    have := small_sum h
    have := h.l
    rw [List.length_map (f := Wo.x)]
    omega) M
theorem ln_len {ws : List Wo} (h : Small ws) : (lnW ws).length ≤ 54 := by
  have a := jl_len [32] (ws.map Wo.x)
  have b := small_sum h
  have c := h.l
  rw [List.length_map (f := Wo.x), List.length_singleton] at a
  unfold lnW
  omega
theorem nt_lens {v : Nat} {gs : List Gn} {os : List Nat} (hv : v < 1000) (hg : ∀ g ∈ gs, Gok g) (ho : ∀ o ∈ os, o < 1000) (hol : os.length ≤ 3) : ∀ l ∈ ntL v gs os, l.length ≤ 54 := fun l hl => by
  rcases List.mem_append.mp hl with q | q
  · rcases List.mem_cons.mp q with q | q
    · rw [q]; exact ln_len (small_I hv)
    · obtain ⟨g, hgm, rfl⟩ := List.mem_map.mp q
      exact ln_len (small_G (hg g hgm))
  · rw [List.mem_singleton.mp q]
    exact ln_len (small_O ho hol)
theorem nt_count (v : Nat) (gs : List Gn) (os : List Nat) : (ntL v gs os).length = gs.length + 2 := by
  unfold ntL
  rw [List.length_append, List.length_cons, List.length_map, List.length_singleton]
abbrev lsW (ls : List (List Nat)) : List W := ls.map fun l => W.d (.str (txt l))
theorem ls_eq (ls : List (List Nat)) : lsW ls = (ls.map fun l => PyData.str (txt l)).map W.d := by rw [List.map_map]; rfl
theorem rd_ls {M : Mem} {k : Nat} {ls : List (List Nat)} (h : M[k]? = some (.lst (lsW ls))) : rd M (.r k) = some (.list (ls.map fun l => .str (txt l))) := by
  rw [ls_eq] at h
  unfold rd
  simp only [h, allD_map, Option.map_some]
theorem join_r {M : Mem} {k : Nat} {ls : List (List Nat)} (h : M[k]? = some (.lst (lsW ls))) (y : List Nat) : fJoin (txt y) (.r k) M = fJoin (txt y) (.d (.list (ls.map fun l => .str (txt l)))) M := by
  have e : sqD M (.r k) = sqD M (.d (.list (ls.map fun l => .str (txt l)))) := by
    unfold sqD
    rw [rd_ls h]
    rfl
  unfold fJoin
  rw [e]
theorem foldl_acc {α β : Type} (F : α → β) (f : List β × Option W × Option W → α → List β × Option W × Option W) (hf : ∀ s x, (f s x).1 = s.1 ++ [F x]) : ∀ (xs : List α) (s : List β × Option W × Option W), (xs.foldl f s).1 = s.1 ++ xs.map F
  | [], s => by rw [List.foldl_nil, List.map_nil, List.append_nil]
  | x :: xs, s => by
    rw [List.foldl_cons, foldl_acc F f hf xs, hf, List.append_assoc]
    rfl
theorem star_ok {te : DE} {ρ : Rho} {M : Mem} {ds : List PyData} (h : te ρ M = .ok (.d (.tuple ds)) M) : dStar te dNil ρ M = .ok (ds.map .d) M := by
  unfold dStar
  rw [h, x_bind]
  show R.ok (ds.map W.d ++ []) M = _
  rw [List.append_nil]
theorem wo_d (w : List Wo) : allD (w.map fun x => W.d x.d) = some (w.map Wo.d) := by
  have : (w.map fun x => W.d x.d) = (w.map Wo.d).map W.d := by rw [List.map_map]; rfl
  rw [this, allD_map]
section
variable {M : Mem}
/-- the bits of a gate as one word -/
theorem bits_ok {ρ : Rho} {bs : List Nat} {i j : Nat} (hb : ∀ b ∈ bs, b < 2) (hl : bs.length ≤ 8) (hi : ∀ M, dVar i ρ M = .ok (.d (.tuple (bs.map ni))) M) (hw : ∀ (w : W) M, dVar j ((wipeR ρ [j]).set j (some w)) M = .ok w M) (M : Mem) :
    dTx fJoin (dC (.str "")) (dLc (dSeqI (dVar i)) (.name j) (dYes) (dFL fStrX (dCons (dVar j) dNil)) [j]) ρ M = .ok (.d (.str (txt (bitsL bs)))) M := by
  have lc := lc_ok (ti := dSeqI (dVar i)) (tg := .name j) (te := dFL fStrX (dCons (dVar j) dNil)) (vs := [j]) (ρ := ρ) (M := M) (g := none) (fun b : Nat => W.d (ni b)) (fun b => .str (txt (TL.numL b))) bs (by
    rw [x_seqi, hi, x_bind, x_kst, List.map_map]
    rfl) (gOk_none _ _) (by omega) (fun b hm => by
    refine ⟨_, den_name, ?_⟩
    rw [x_fl, x_cons, hw, x_bind, x_nil, x_bind, x_bind]
    exact str_wo (.n b) M fun k e => by cases e; have := hb b hm; omega)
  have e : (bs.map fun b => PyData.str (txt (TL.numL b))) = ((bs.map TL.numL).map fun l => .str (txt l)) := by rw [List.map_map]; rfl
  rw [e] at lc
  have jn := jn_ok [] (bs.map TL.numL) (by
    have := sum_le 3 (bs.map TL.numL) fun l hl => by
      obtain ⟨b, hm, rfl⟩ := List.mem_map.mp hl
      exact (nok (by have := hb b hm; omega)).len
    rw [List.length_map] at *
    show _ + bs.length * 0 ≤ _
    omega) M
  have z : ("" : Str) = txt [] := rfl
  rw [x_tx, x_c, x_bind, x_ktx, lc, x_bind, z]
  exact jn
theorem ntext_ok (k v : Nat) (gs : List Gn) (os : List Nat) (hv : v < 1000) (hg : ∀ g ∈ gs, Gok g) (hgl : gs.length ≤ 100) (ho : ∀ o ∈ os, o < 1000) (hol : os.length ≤ 3) (M : Mem) :
    Fn cl pt (k + 2) 0 [.d (ntD v gs os)] M = .ok (.d (.str (txt (TL.joinL [10] (ntL v gs os))))) M := by
  have lI := line_small (cl := cl) (pt := pt) k (small_I hv)
  have lI' : ∀ M, Fn cl pt (k + 1) 1 [.d (.tuple [.str "inputs", ni v])] M = .ok (.d (.str (txt (lnW (wsI v))))) M := lI
  have lO := line_small (cl := cl) (pt := pt) k (small_O ho hol)
  have eg : (gs.map gE).map W.d = gs.map fun g => W.d (gE g) := by rw [List.map_map]; rfl
  obtain ⟨lo, hI⟩ := floop_foldN (σ := List (List Nat) × Option W × Option W) (γ := Gn) (all := gs.map fun g => W.d (gE g)) (g := none) (tg := .tup [5, 6])
    (body := dExpr (dBM fAppend (dVar 4) (dCons (dFL (Fn cl pt (k + 1) 1) (dCons (dTup (dCons (dC (.str "gate")) (dCons (dTx fJoin (dC (.str "")) (dLc (dSeqI (dVar 6)) (.name 7) (dYes) (dFL fStrX (dCons (dVar 7) dNil)) [7])) (dStar (dVar 5) (dNil))))) (dNil))) dNil)))
    (fun s => [some (.d (ntD v gs os)), some (.d (ni v)), some (.d (.tuple (gs.map gE))), some (.d (.tuple (os.map ni))), some (.r M.length), s.2.1, s.2.2, none])
    (fun s => M ++ [.lst (lsW s.1)]) (fun g => W.d (gE g)) (fun s g => (s.1 ++ [lnW (wsG g)], some (.d (.tuple (g.1.map ni))), some (.d (.tuple (g.2.map ni))))) (fun n s => s.1.length + n ≤ 101) Gok
    (fun _ _ _ => gOk_none _ _) (fun n s g hI hG => by
      refine ⟨by show (s.1 ++ [lnW (wsG g)]).length + n ≤ 101; rw [List.length_append, List.length_singleton]; omega, [some (.d (ntD v gs os)), some (.d (ni v)), some (.d (.tuple (gs.map gE))), some (.d (.tuple (os.map ni))), some (.r M.length), some (.d (.tuple (g.1.map ni))), some (.d (.tuple (g.2.map ni))), none], rfl, ?_⟩
      have hM : (M ++ [O.lst (lsW s.1)])[M.length]? = some (.lst (lsW s.1)) := last_at
      have bt := bits_ok (ρ := [some (.d (ntD v gs os)), some (.d (ni v)), some (.d (.tuple (gs.map gE))), some (.d (.tuple (os.map ni))), some (.r M.length), some (.d (.tuple (g.1.map ni))), some (.d (.tuple (g.2.map ni))), none]) (bs := g.2) (i := 6) (j := 7) hG.b (by rw [hG.w]; exact pw8 hG.l) (fun _ => rfl) (fun _ _ => rfl) (M ++ [O.lst (lsW s.1)])
      have st := star_ok (te := dVar 5) (ρ := [some (.d (ntD v gs os)), some (.d (ni v)), some (.d (.tuple (gs.map gE))), some (.d (.tuple (os.map ni))), some (.r M.length), some (.d (.tuple (g.1.map ni))), some (.d (.tuple (g.2.map ni))), none]) (M := M ++ [O.lst (lsW s.1)]) (ds := g.1.map ni) rfl
      have tu : kTup (.d (.str "gate") :: .d (.str (txt (bitsL g.2))) :: (g.1.map ni).map .d) (M ++ [O.lst (lsW s.1)]) = .ok (.d (.tuple ((wsG g).map Wo.d))) (M ++ [O.lst (lsW s.1)]) := by
        have e : (W.d (.str "gate") :: .d (.str (txt (bitsL g.2))) :: (g.1.map ni).map .d) = (wsG g).map fun x => W.d x.d := by
          show W.d (.str "gate") :: .d (.str (txt (bitsL g.2))) :: (g.1.map ni).map .d = W.d (.str (txt wGAT)) :: .d (.str (txt (bitsL g.2))) :: (g.1.map Wo.n).map fun x => W.d x.d
          rw [List.map_map, List.map_map]
          rfl
        rw [e]
        refine x_ktup (wo_d _) ?_
        rw [List.length_map]
        have := (small_G hG).l
        exact Nat.ble_eq.mpr (by omega)
      have lG := line_small (cl := cl) (pt := pt) k (small_G hG) (M ++ [O.lst (lsW s.1)])
      have ap : fAppend (.r M.length) [.d (.str (txt (lnW (wsG g))))] (M ++ [O.lst (lsW s.1)]) = .ok (.d .none) (M ++ [O.lst (lsW (s.1 ++ [lnW (wsG g)]))]) := by
        rw [x_app hM (by rw [List.length_map]; omega), last_set, lsW, lsW, List.map_append]
        rfl
      rw [x_expr, x_bm]
      simp only [x_v0, x_vS, x_bind, x_kbm fAppend hM]
      rw [x_cons, x_fl, x_cons, x_tup, x_cons, x_c, x_bind, x_cons, bt, x_bind, st, x_bind, x_bind, x_bind, tu, x_bind, x_nil, x_bind, x_bind, lG, x_bind, x_nil, x_bind, x_bind]
      exact (congrArg (fun z => R.bind z _) ap).trans rfl)
    gs ([lnW (wsI v)], none, none) (by show 1 + gs.length ≤ 101; omega) hg
  have acc := foldl_acc (fun g => lnW (wsG g)) (fun s g => (s.1 ++ [lnW (wsG g)], some (.d (.tuple (g.1.map ni))), some (.d (.tuple (g.2.map ni))))) (fun _ _ => rfl) gs ([lnW (wsI v)], none, none)
  obtain ⟨fs, hfs⟩ : ∃ fs, fs = gs.foldl (fun (s : List (List Nat) × Option W × Option W) g => (s.1 ++ [lnW (wsG g)], some (W.d (.tuple (g.1.map ni))), some (W.d (.tuple (g.2.map ni))))) ([lnW (wsI v)], none, none) := ⟨_, rfl⟩
  rw [← hfs] at lo acc
  rw [fn_net_text]
  refine def_of rfl (w := .d (.str (txt (TL.joinL [10] (ntL v gs os))))) (M' := M ++ [.lst (lsW (ntL v gs os))]) ?_ (finD_app rfl)
  show den_net_text cl pt (Fn cl pt (k + 1)) [some (.d (ntD v gs os)), none, none, none, none, none, none, none] M = _
  unfold den_net_text
  have dn : Tg.den (.tup [1, 2, 3]) (.d (ntD v gs os)) [some (.d (ntD v gs os)), none, none, none, none, none, none, none] = some [some (.d (ntD v gs os)), some (.d (ni v)), some (.d (.tuple (gs.map gE))), some (.d (.tuple (os.map ni))), none, none, none, none] := rfl
  have lm : ∀ w, kLstM [w] M = .ok (.r M.length) (M ++ [.lst [w]]) := fun w => if_pos (by show 1 ≤ 1000; decide)
  have t2 : ∀ (a b : PyData) M', kTup [.d a, .d b] M' = .ok (.d (.tuple [a, b])) M' := fun _ _ _ => x_tup2
  simp only [x_seq, x_settg, x_v0, x_bind, x_ktg dn, x_nx, x_set, x_lstM, x_cons, x_nil, x_fl, x_tup, x_c, x_vS, t2, lI', lm, x_st0, x_stS, x_for, x_seqi, x_kst, eg, x_kfor]
  refine (congrArg (fun z => R.bind z _) lo).trans ?_
  rw [x_bind, x_nx]
  have hM : (M ++ [O.lst (lsW fs.1)])[M.length]? = some (.lst (lsW fs.1)) := last_at
  have st := star_ok (te := dVar 3) (ρ := [some (.d (ntD v gs os)), some (.d (ni v)), some (.d (.tuple (gs.map gE))), some (.d (.tuple (os.map ni))), some (.r M.length), fs.2.1, fs.2.2, none]) (M := M ++ [O.lst (lsW fs.1)]) (ds := os.map ni) rfl
  have tu : kTup (.d (.str "outputs") :: (os.map ni).map .d) (M ++ [O.lst (lsW fs.1)]) = .ok (.d (.tuple ((wsO os).map Wo.d))) (M ++ [O.lst (lsW fs.1)]) := by
    have e : (W.d (.str "outputs") :: (os.map ni).map .d) = (wsO os).map fun x => W.d x.d := by
      show W.d (.str "outputs") :: (os.map ni).map .d = W.d (.str (txt wOUT)) :: (os.map Wo.n).map fun x => W.d x.d
      rw [List.map_map, List.map_map]
      rfl
    rw [e]
    refine x_ktup (wo_d _) ?_
    rw [List.length_map]
    have := (small_O ho hol).l
    exact Nat.ble_eq.mpr (by omega)
  have eN : fs.1 ++ [lnW (wsO os)] = ntL v gs os := by rw [acc]; rfl
  have ap : fAppend (.r M.length) [.d (.str (txt (lnW (wsO os))))] (M ++ [O.lst (lsW fs.1)]) = .ok (.d .none) (M ++ [O.lst (lsW (ntL v gs os))]) := by
    rw [x_app hM (by rw [List.length_map, acc, List.length_append, List.length_map]; show 1 + gs.length ≤ _; omega), last_set, ← eN, lsW, lsW, List.map_append]
    rfl
  rw [x_seq, x_expr, x_bm]
  simp only [x_v0, x_vS, x_bind, x_kbm fAppend hM]
  rw [x_cons, x_fl, x_cons, x_tup, x_cons, x_c, x_bind, st, x_bind, x_bind, tu, x_bind, x_nil, x_bind, x_bind, lO, x_bind, x_nil, x_bind, x_bind]
  refine (congrArg (fun z => R.bind (R.bind z _) _) ap).trans ?_
  rw [x_bind, x_bind, x_nx, x_ret, x_tx, x_c, x_bind, x_ktx]
  simp only [x_v0, x_vS, x_bind]
  have hN : (M ++ [O.lst (lsW (ntL v gs os))])[M.length]? = some (.lst (lsW (ntL v gs os))) := last_at
  have z : ("\n" : Str) = txt [10] := rfl
  have jn := jn_ok [10] (ntL v gs os) (by
    have a := sum_le 54 _ (nt_lens hv hg ho hol)
    have b := nt_count v gs os
    show _ + _ * 1 ≤ _
    omega) (M ++ [O.lst (lsW (ntL v gs os))])
  rw [z, join_r hN, jn]
  rfl
end

end Pf
namespace Pf
open PySem PySem.Spec PyProof.Rows L2 By
variable {cl pt : Nat → Addr}
theorem numA_at {ws : List (List Nat)} {a n : Nat} (h : ws[a]? = some (TL.numL n)) (hn : n < 1000) : numA ws a = some (.ok (n : Int)) := by
  unfold numA
  rw [h]
  simp only [(nok hn).f, if_true, (nok hn).i]
  rfl
theorem numsA_at : ∀ (os : List Nat) (pre : List (List Nat)), (∀ o ∈ os, o < 1000) → numsA (pre ++ os.map TL.numL) os.length pre.length = some (.ok (os.map fun n => ((n : Nat) : Int)))
  | [], pre, _ => rfl
  | o :: os, pre, h => by
    have ih := numsA_at os (pre ++ [TL.numL o]) fun x hx => h x (List.mem_cons_of_mem _ hx)
    rw [List.length_append, List.length_singleton, List.append_assoc] at ih
    have ih' : numsA (pre ++ (TL.numL o :: os.map TL.numL)) os.length (pre.length + 1) = some (.ok (os.map fun n => ((n : Nat) : Int))) := ih
    show numsA (pre ++ (TL.numL o :: os.map TL.numL)) (os.length + 1) pre.length = _
    unfold numsA
    rw [numA_at (n := o) (by rw [List.getElem?_append_right (Nat.le_refl _), Nat.sub_self]; rfl) (h o List.mem_cons_self)]
    simp only [ih']
    rfl
theorem numsF_at (os : List Nat) (pre : List (List Nat)) (h : ∀ o ∈ os, o < 1000) : numsF (pre ++ os.map TL.numL) pre.length = some (.ok (os.map fun n => ((n : Nat) : Int))) := by
  unfold numsF
  rw [List.length_append, Nat.add_sub_cancel_left, List.length_map]
  exact numsA_at os pre h
/-- no blank and no line feed within the words -/
def Cl (ws : List Wo) : Prop := ∀ w ∈ ws, 32 ∉ w.x ∧ 10 ∉ w.x
theorem cl_n {ns : List Nat} (h : ∀ n ∈ ns, n < 1000) : Cl (ns.map Wo.n) := fun w hw => by
  obtain ⟨n, hn, rfl⟩ := List.mem_map.mp hw
  exact ⟨(nok (h n hn)).sp, (nok (h n hn)).nl⟩
theorem cl_cons {w : Wo} {ws : List Wo} (h : 32 ∉ w.x ∧ 10 ∉ w.x) (hs : Cl ws) : Cl (w :: ws) := fun x hx => by
  rcases List.mem_cons.mp hx with q | q
  · rw [q]; exact h
  · exact hs x q
theorem cl_I {v : Nat} (h : v < 1000) : Cl (wsI v) := cl_cons ⟨(by decide), (by decide)⟩ (cl_n (ns := [v]) fun n hn => by rw [List.mem_singleton.mp hn]; exact h)
theorem bits_mem {bs : List Nat} (h : ∀ b ∈ bs, b < 2) {c : Nat} (hc : c ∈ bitsL bs) : c = 48 ∨ c = 49 := by
  rw [bits_eq bs h] at hc
  obtain ⟨b, hb, rfl⟩ := List.mem_map.mp hc
  have := h b hb
  omega
theorem cl_G {g : Gn} (h : Gok g) : Cl (wsG g) := cl_cons ⟨(by decide), (by decide)⟩ (cl_cons ⟨fun m => by have := bits_mem h.b m; omega, fun m => by have := bits_mem h.b m; omega⟩ (cl_n h.s))
theorem cl_O {os : List Nat} (h : ∀ o ∈ os, o < 1000) : Cl (wsO os) := cl_cons ⟨(by decide), (by decide)⟩ (cl_n h)
theorem mem_join {c : Nat} {y : List Nat} (hy : c ∉ y) : ∀ ps : List (List Nat), (∀ p ∈ ps, c ∉ p) → c ∉ TL.joinL y ps
  | [], _ => by intro m; cases m
  | [p], h => h p List.mem_cons_self
  | p :: q :: r, h => by
    have ih := mem_join hy (q :: r) fun x hx => h x (List.mem_cons_of_mem _ hx)
    intro m
    have m' : c ∈ p ++ (y ++ TL.joinL y (q :: r)) := m
    rcases List.mem_append.mp m' with a | a
    · exact h p List.mem_cons_self a
    rcases List.mem_append.mp a with b | b
    · exact hy b
    · exact ih b
theorem ln_nl {ws : List Wo} (h : Cl ws) : 10 ∉ lnW ws := mem_join (by decide) _ fun p hp => by
  obtain ⟨w, hw, rfl⟩ := List.mem_map.mp hp
  exact (h w hw).2
theorem spW_ln {ws : List Wo} (h : Cl ws) (hne : ws ≠ []) : spW (lnW ws) = ws.map Wo.x := TL.spl_join (S := []) (by simpa using hne) fun p hp => by
  obtain ⟨w, hw, rfl⟩ := List.mem_map.mp hp
  exact (h w hw).1
theorem lwB_ln {ws : List Wo} (h : Cl ws) (hs : Small ws) (hne : ws ≠ []) {n : Nat} (hn : n ≤ 1000) : lwB (spW (lnW ws)) (lnW ws) n = true := by
  have a := ln_len hs
  have b := hs.l
  have c : 1 ≤ ws.length := List.length_pos_iff.mpr hne
  rw [spW_ln h hne]
  simp only [lwB, Bool.and_eq_true, decide_eq_true_eq, List.all_eq_true, List.length_map]
  refine ⟨fun x hx => ?_, by omega, by omega, by omega, by omega⟩
  obtain ⟨y, hy, rfl⟩ := List.mem_map.mp hx
  have := (hs.n y hy).1
  omega
theorem xs_n (ns : List Nat) : (ns.map Wo.n).map Wo.x = ns.map TL.numL := by rw [List.map_map]; rfl
theorem pw_and : ∀ m, m ≤ 3 → (2 ^ m) &&& (2 ^ m - 1) = 0 := by decide
theorem gwF_at {ws : List (List Nat)} {bs : List Nat} {m : Nat} (h : ws[1]? = some (bitsL bs)) (hb : ∀ b ∈ bs, b < 2) (hl : bs.length = 2 ^ m) (hm : m ≤ 3) : gwF ws = .ok bs := by
  have l := bits_len hb
  have p : 2 ^ m ≠ 0 := Nat.ne_of_gt (Nat.pow_pos (by decide))
  have al : (bitsL bs).all b01 = true := List.all_eq_true.mpr fun c hc => by
    rcases bits_mem hb hc with rfl | rfl <;> decide
  unfold gwF
  rw [h]
  simp only [al, l, hl, pw_and m hm, decide_true, Bool.not_true, Bool.or_false, decide_eq_false p, Bool.false_eq_true, if_false]
  rw [bits_eq bs hb, List.map_map]
  congr 1
  have : ∀ x ∈ bs, ((fun c => c - 48) ∘ (48 + ·)) x = x := fun x _ => by show 48 + x - 48 = x; omega
  rw [List.map_congr_left this, List.map_id']
theorem riF_at {v : Nat} (h : v < 1000) : riF ((wsI v).map Wo.x) = some (.ok (v : Int)) := by
  have e : (wsI v).map Wo.x = [wINP, TL.numL v] := rfl
  rw [e]
  unfold riF
  rw [numA_at (ws := [wINP, TL.numL v]) (a := 1) rfl h]
  rfl
theorem rgF_at {g : Gn} (h : Gok g) : rgF ((wsG g).map Wo.x) = some (.ok (gN g)) := by
  have e : (wsG g).map Wo.x = [wGAT, bitsL g.2] ++ g.1.map TL.numL := by
    show wGAT :: bitsL g.2 :: (g.1.map Wo.n).map Wo.x = _
    rw [xs_n]
    rfl
  rw [e]
  unfold rgF
  rw [gwF_at (m := g.1.length) (show ([wGAT, bitsL g.2] ++ g.1.map TL.numL)[1]? = some (bitsL g.2) from rfl) h.b h.w h.l]
  have n2 : numsF ([wGAT, bitsL g.2] ++ g.1.map TL.numL) 2 = some (.ok (g.1.map fun n => ((n : Nat) : Int))) := numsF_at g.1 [wGAT, bitsL g.2] h.s
  rw [n2]
  show (if wGAT = wGAT then if g.2.length = 2 ^ (g.1.map fun n => ((n : Nat) : Int)).length then _ else _ else _) = _
  rw [if_pos rfl, List.length_map, if_pos h.w]
theorem netR_at {T : Nat} {os : List Nat} (hT : T ≤ 1000) (ho : ∀ o ∈ os, o < 1000) (hol : os.length ≤ 3) : ∀ (gs : List Gn) (n : Nat) (acc : List Gt), (∀ g ∈ gs, Gok g) → n + gs.length = T →
    netR T n ((gs.map fun g => lnW (wsG g)) ++ [lnW (wsO os)]) acc = some (.ok (acc ++ gs.map gN, os.map fun n => ((n : Nat) : Int)))
  | [], n, acc, _, hn => by
    rw [List.length_nil] at hn
    show netR T n (lnW (wsO os) :: []) acc = _
    unfold netR
    rw [if_pos (lwB_ln (cl_O ho) (small_O ho hol) (List.cons_ne_nil _ _) (by omega))]
    have e : spW (lnW (wsO os)) = [wOUT] ++ os.map TL.numL := by
      rw [show spW (lnW (wsO os)) = _ from spW_ln (cl_O ho) (List.cons_ne_nil _ _)]
      show wOUT :: (os.map Wo.n).map Wo.x = _
      rw [xs_n]
      rfl
    rw [e]
    have n1 : numsF ([wOUT] ++ os.map TL.numL) 1 = some (.ok (os.map fun n => ((n : Nat) : Int))) := numsF_at os [wOUT] ho
    rw [n1]
    show (if wOUT = wOUT then if n < T then _ else _ else _) = _
    rw [if_pos rfl, if_neg (by omega), List.map_nil, List.append_nil]
  | g :: gs, n, acc, h, hn => by
    rw [List.length_cons] at hn
    have hG := h g List.mem_cons_self
    have ih := netR_at hT ho hol gs (n + 1) (acc ++ [gN g]) (fun x hx => h x (List.mem_cons_of_mem _ hx)) (by omega)
    show netR T n (lnW (wsG g) :: ((gs.map fun g => lnW (wsG g)) ++ [lnW (wsO os)])) acc = _
    unfold netR
    rw [if_pos (lwB_ln (cl_G hG) (small_G hG) (List.cons_ne_nil _ _) (by omega))]
    have e : spW (lnW (wsG g)) = (wsG g).map Wo.x := spW_ln (cl_G hG) (List.cons_ne_nil _ _)
    rw [e, rgF_at hG]
    have w0 : ((wsG g).map Wo.x)[0]? = some wGAT := rfl
    rw [w0]
    have ne : ¬ wGAT = wOUT := by decide
    simp only [if_neg ne]
    rw [ih, List.append_assoc]
    rfl
theorem spL_nt {v : Nat} {gs : List Gn} {os : List Nat} (hv : v < 1000) (hg : ∀ g ∈ gs, Gok g) (ho : ∀ o ∈ os, o < 1000) : spL (TL.joinL [10] (ntL v gs os)) = ntL v gs os := TL.spl_join (S := []) (by unfold ntL; simp) fun p hp => by
  rcases List.mem_append.mp hp with q | q
  · rcases List.mem_cons.mp q with q | q
    · rw [q]; exact ln_nl (cl_I hv)
    · obtain ⟨g, hgm, rfl⟩ := List.mem_map.mp q
      exact ln_nl (cl_G (hg g hgm))
  · rw [List.mem_singleton.mp q]
    exact ln_nl (cl_O ho)
theorem netF_nt {v : Nat} {gs : List Gn} {os : List Nat} (hv : v < 1000) (hg : ∀ g ∈ gs, Gok g) (hgl : gs.length ≤ 100) (ho : ∀ o ∈ os, o < 1000) (hol : os.length ≤ 3) :
    netF (TL.joinL [10] (ntL v gs os)) = some (.ok ((v : Int), gs.map gN, os.map fun n => ((n : Nat) : Int))) := by
  obtain ⟨ls, hls⟩ : ∃ ls, ls = (gs.map fun g => lnW (wsG g)) ++ [lnW (wsO os)] := ⟨_, rfl⟩
  have e0 : ntL v gs os = lnW (wsI v) :: ls := by rw [hls]; rfl
  have len : ls.length = gs.length + 1 := by rw [hls, List.length_append, List.length_map, List.length_singleton]
  have r := netR_at (T := ls.length + 1) (by rw [len]; omega) ho hol gs 2 [] hg (by rw [len]; omega)
  rw [← hls, List.nil_append] at r
  have e : spW (lnW (wsI v)) = (wsI v).map Wo.x := spW_ln (cl_I hv) (List.cons_ne_nil _ _)
  unfold netF
  rw [spL_nt hv hg ho, e0]
  simp only
  rw [if_pos (lwB_ln (cl_I hv) (small_I hv) (List.cons_ne_nil _ _) (by omega)), e, riF_at hv]
  simp only [r]
section
variable {M : Mem}
theorem back_ok (k v : Nat) (gs : List Gn) (os : List Nat) (hv : v < 1000) (hg : ∀ g ∈ gs, Gok g) (hgl : gs.length ≤ 100) (ho : ∀ o ∈ os, o < 1000) (hol : os.length ≤ 3) (hT : ∀ q, q < 4 → O.tbl (pt q) ∈ M) :
    Fn cl pt (k + 10) 2 [.d (.str (txt (TL.joinL [10] (ntL v gs os))))] M = .ok (.d (ntD v gs os)) M := by
  have lens := nt_lens hv hg ho hol
  have cnt := nt_count v gs os
  have jl := jl_len [10] (ntL v gs os)
  have sl := sum_le 54 _ lens
  rw [List.length_singleton] at jl
  have := net_ok (cl := cl) (pt := pt) (M := M) k (TL.joinL [10] (ntL v gs os)) (by omega) (by
    rw [spL_nt hv hg ho, List.all_eq_true]
    exact fun l hl => decide_eq_true (by have := lens l hl; omega)) (by rw [spL_nt hv hg ho]; omega) hT (netF_nt hv hg hgl ho hol)
  rw [this]
  show R.ok (W.d (.tuple [.int v, .tuple ((gs.map gN).map gD), .tuple ((os.map fun n => ((n : Nat) : Int)).map .int)])) M = _
  rw [vs_ni, List.map_map, show gD ∘ gN = gE from funext gD_gN]
end

end Pf
namespace Pf
open PySem PySem.Spec PyProof.Rows L2 By
variable {cl pt : Nat → Addr}
theorem draws {k : Nat} {S : List Int} {i : Nat} (b : Int) (hb : 0 < b) {td : DI} {tg : Tg} {te : DE} {vs : List Nat} {ρ : Rho} {M : Mem} {c : Nat} (hc : c + 100000 < 1000000000) (hi : M[i]? = some (dr S c)) (n : Nat) (hn : n ≤ 1000)
    (hti : td ρ M = .ok ((rgI 0 (n : Int)).map fun i => W.d (.int i), none) M) (hte : ∀ (x : W) M', ∃ ρ1, tg.den x (wipeR ρ vs) = some ρ1 ∧ te ρ1 M' = Fn cl pt (k + 3) 14 [.r i, .d (.int b)] M') :
    ∃ ns : List Nat, ns.length = n ∧ (∀ x ∈ ns, (x : Int) < b) ∧ dLc td tg dYes te vs ρ M = .ok (.d (.list (ns.map ni))) (M.set i (dr S (c + n))) := by
  have hl := (List.getElem?_eq_some_iff.mp hi).1
  have rl : ((rgI 0 ((n : Nat) : Int)).map fun i => W.d (.int i)).length = n := by
    rw [List.length_map, rgI, List.length_map, List.length_range]
    omega
  obtain ⟨xs, M', h1, h2, h3, rfl⟩ := cloop_inv (all := (rgI 0 ((n : Nat) : Int)).map fun i => W.d (.int i)) (g := none) (tg := tg) (c := dYes) (te := te) (ρ0 := wipeR ρ vs) (fun j M' => M' = M.set i (dr S (c + j))) (fun _ x => ∃ v : Nat, (v : Int) < b ∧ x = .d (ni v))
    ((rgI 0 ((n : Nat) : Int)).map fun i => W.d (.int i)) 0 M (by
      rw [Nat.add_zero]
      apply List.ext_getElem?
      intro j
      by_cases q : i = j
      · subst q; rw [List.getElem?_set_self hl, hi]
      · rw [List.getElem?_set_ne q]) (fun _ _ _ => gOk_none _ _) (fun j w M' hj e => by
      subst e
      have hj' : j < n := by
        have := (List.getElem?_eq_some_iff.mp hj).1
        rw [rl] at this
        exact this
      obtain ⟨ρ1, d1, d2⟩ := hte w (M.set i (dr S (c + (0 + j))))
      obtain ⟨v, v0, v1, hv⟩ := law_next (cl := cl) (pt := pt) k S (c + (0 + j)) (by omega) i b hb (M.set i (dr S (c + (0 + j)))) (List.getElem?_set_self hl)
      obtain ⟨m, rfl⟩ := Int.eq_ofNat_of_zero_le v0
      rw [List.set_set] at hv
      exact ⟨ρ1, _, _, d1, x_yes, d2.trans hv, ⟨m, v1, rfl⟩, by rw [show c + (0 + j) + 1 = c + (0 + j + 1) by omega]⟩)
  have ex : ∃ ns : List Nat, xs = wl ns ∧ (∀ x ∈ ns, (x : Int) < b) := by
    have : ∀ (xs : List W), (∀ x ∈ xs, ∃ v : Nat, (v : Int) < b ∧ x = .d (ni v)) → ∃ ns : List Nat, xs = wl ns ∧ (∀ x ∈ ns, (x : Int) < b) := by
      intro xs
      induction xs with
      | nil => exact fun _ => ⟨[], rfl, fun x hx => by cases hx⟩
      | cons x xs ih =>
        intro h
        obtain ⟨v, hv, rfl⟩ := h x List.mem_cons_self
        obtain ⟨ns, rfl, hns⟩ := ih fun y hy => h y (List.mem_cons_of_mem _ hy)
        refine ⟨v :: ns, rfl, fun y hy => ?_⟩
        rcases List.mem_cons.mp hy with q | q
        · rw [q]; exact hv
        · exact hns y q
    refine this xs fun x hx => ?_
    obtain ⟨j, hj, e⟩ := List.getElem_of_mem hx
    exact h3 j x (by rw [List.getElem?_eq_getElem hj, e])
  obtain ⟨ns, rfl, hns⟩ := ex
  rw [List.length_map, rl] at h2
  refine ⟨ns, h2, hns, ?_⟩
  rw [x_lc, x_lcw, hti, x_bind, h1, x_bind, ← wl_eq, x_klc (by rw [List.length_map]; omega), rl, Nat.zero_add]
theorem sh_len {M : Mem} {l : Nat} (h : l ≤ 100) : fShl (.d (.int 1)) (.d (.int ((l : Nat) : Int))) M = .ok (.d (.int ((2 ^ l : Nat) : Int))) M := by
  rw [fShl_ok (by omega) (by omega) (i1000 (i := 1) (by decide) (by decide)), Int.toNat_natCast, Int.one_mul]
  norm_cast
theorem joinL_cons : ∀ (rest : List (List Nat)) (x : List Nat), TL.joinL [32] (x :: rest) = x ++ (rest.map (32 :: ·)).flatten
  | [], x => by
    show x = x ++ []
    rw [List.append_nil]
  | z :: r, x => by
    have ih := joinL_cons r z
    show x ++ ([32] ++ TL.joinL [32] (z :: r)) = _
    rw [ih]
    rfl
def sigL (ns : List Nat) : List Nat := TL.joinL [] (ns.map fun n => 32 :: TL.numL n)
theorem sigL_eq (ns : List Nat) : sigL ns = ((ns.map TL.numL).map (32 :: ·)).flatten := by
  unfold sigL
  rw [joinL_nil, List.map_map]
  rfl
theorem lnG_eq (g : Gn) : lnW (wsG g) = (wGAT ++ [32] ++ bitsL g.2) ++ sigL g.1 := by
  show TL.joinL [32] (wGAT :: bitsL g.2 :: (g.1.map Wo.n).map Wo.x) = _
  rw [joinL_cons, xs_n, sigL_eq]
  rfl
theorem lnI_eq (v : Nat) : lnW (wsI v) = wINP ++ [32] ++ TL.numL v := by
  show TL.joinL [32] (wINP :: [TL.numL v]) = _
  rw [joinL_cons]
  show wINP ++ (32 :: TL.numL v ++ []) = _
  rw [List.append_nil]
  rfl
theorem lnO_eq (os : List Nat) : lnW (wsO os) = wOUT ++ sigL os := by
  show TL.joinL [32] (wOUT :: (os.map Wo.n).map Wo.x) = _
  rw [joinL_cons, xs_n, sigL_eq]
theorem txt_app (a b : List Nat) : (txt a ++ txt b : Str) = txt (a ++ b) := by
  have : ∀ x y : Str, (x ++ y : Str) = ⟨x.cps ++ y.cps⟩ := fun _ _ => rfl
  rw [this]
  show (⟨a.toArray ++ b.toArray⟩ : Str) = ⟨(a ++ b).toArray⟩
  simp
theorem x_catS2 {a b : List Nat} {M : Mem} (h : a.length + b.length ≤ 1000000) : fCat (.d (.str (txt a))) (.d (.str (txt b))) M = .ok (.d (.str (txt (a ++ b)))) M := by
  show (if (txt a).length + (txt b).length ≤ 1000000 then R.ok (W.d (.str (txt a ++ txt b))) M else .bot) = _
  rw [txt_len, txt_len, if_pos h, txt_app]
theorem sig_len {ns : List Nat} (h : ∀ n ∈ ns, n < 1000) : (sigL ns).length ≤ ns.length * 4 := by
  have a := jl_len [] (ns.map fun n => 32 :: TL.numL n)
  have b := sum_le 4 (ns.map fun n => 32 :: TL.numL n) fun l hl => by
    obtain ⟨n, hn, rfl⟩ := List.mem_map.mp hl
    have := (nok (h n hn)).len
    rw [List.length_cons]
    omega
  rw [List.length_map] at a b
  unfold sigL
  have : ns.length * ([] : List Nat).length = 0 := Nat.mul_zero _
  omega
section
variable {M : Mem}
/-- numbers, each behind a blank -/
theorem sig_ok {ρ : Rho} {ns : List Nat} {i j : Nat} (hb : ∀ b ∈ ns, b < 1000) (hl : ns.length ≤ 100) (hi : ∀ M, dVar i ρ M = .ok (.d (.tuple (ns.map ni))) M) (hw : ∀ (w : W) M, dVar j ((wipeR ρ [j]).set j (some w)) M = .ok w M) (M : Mem) :
    dTx fJoin (dC (.str "")) (dLc (dSeqI (dVar i)) (.name j) (dYes) (dBin fCat (dC (.str " ")) (dFL fStrX (dCons (dVar j) dNil))) [j]) ρ M = .ok (.d (.str (txt (sigL ns)))) M := by
  have lc := lc_ok (ti := dSeqI (dVar i)) (tg := .name j) (te := dBin fCat (dC (.str " ")) (dFL fStrX (dCons (dVar j) dNil))) (vs := [j]) (ρ := ρ) (M := M) (g := none) (fun b : Nat => W.d (ni b)) (fun b => .str (txt (32 :: TL.numL b))) ns (by
    rw [x_seqi, hi, x_bind, x_kst, List.map_map]
    rfl) (gOk_none _ _) (by omega) (fun b hm => by
    refine ⟨_, den_name, ?_⟩
    have s : fStrX [.d (ni b)] M = .ok (.d (.str (txt (TL.numL b)))) M := str_wo (.n b) M fun k e => by cases e; have := hb b hm; omega
    have c : fCat (.d (.str " ")) (.d (.str (txt (TL.numL b)))) M = .ok (.d (.str (txt (32 :: TL.numL b)))) M := x_catS2 (a := [32]) (by have := (nok (hb b hm)).len; show 1 + _ ≤ _; omega)
    rw [x_bin, x_c, x_bind, x_fl, x_cons, hw, x_bind, x_nil, x_bind, x_bind, s, x_bind, c])
  have e : (ns.map fun b => PyData.str (txt (32 :: TL.numL b))) = ((ns.map fun b => 32 :: TL.numL b).map fun l => .str (txt l)) := by rw [List.map_map]; rfl
  rw [e] at lc
  have jn := jn_ok [] (ns.map fun b => 32 :: TL.numL b) (by
    have := sum_le 4 (ns.map fun b => 32 :: TL.numL b) fun l hl => by
      obtain ⟨b, hm, rfl⟩ := List.mem_map.mp hl
      have := (nok (hb b hm)).len
      rw [List.length_cons]
      omega
    rw [List.length_map] at *
    show _ + ns.length * 0 ≤ _
    omega) M
  have z : ("" : Str) = txt [] := rfl
  rw [x_tx, x_c, x_bind, x_ktx, lc, x_bind, z]
  exact jn
end
/-- the law's store -/
abbrev Ms (pt : Nat → Addr) (S : List Int) (c : Nat) (gs : List Gn) (ls : List (List Nat)) : Mem := [.tbl (pt 0), .tbl (pt 1), .tbl (pt 2), .tbl (pt 3), dr S c, .lst (gs.map fun g => W.d (gE g)), .lst (lsW ls)]
abbrev Ev (sc : W) (v : Nat) (y5 y6 y7 y8 y13 y14 y15 : Option W) : Rho := [some sc, some (.r 4), some (.d (ni v)), some (.r 5), some (.r 6), y5, y6, y7, y8, none, none, none, none, y13, y14, y15, none, none, none]
noncomputable def gtB (cl pt : Nat → Addr) : DS := (dSeq (dSet 13 (dFL (Fn cl pt 159 14) (dCons (dVar 1) (dCons (dC (.int 4)) (dNil)))))
    (dSeq (dPar 14 15 (dCons (dFL fTuple (dCons (dLc (dRngI (dRg1 (dVar 13))) (.name 16) (dYes) (dFL (Fn cl pt 159 14) (dCons (dVar 1) (dCons (dC (.int 999)) (dNil)))) [16]) dNil)) (dCons (dFL fTuple (dCons (dLc (dRngI (dRg1 (dBin fShl (dC (.int 1)) (dVar 13)))) (.name 16) (dYes) (dFL (Fn cl pt 159 14) (dCons (dVar 1) (dCons (dC (.int 2)) (dNil)))) [16]) dNil)) (dNil))))
    (dSeq (dExpr (dBM fAppend (dVar 3) (dCons (dTup (dCons (dVar 14) (dCons (dVar 15) (dNil)))) dNil)))
    (dExpr (dBM fAppend (dVar 4) (dCons (dBin fCat (dBin fCat (dC (.str "gate ")) (dTx fJoin (dC (.str "")) (dLc (dSeqI (dVar 15)) (.name 18) (dYes) (dFL fStrX (dCons (dVar 18) dNil)) [18]))) (dTx fJoin (dC (.str "")) (dLc (dSeqI (dVar 14)) (.name 17) (dYes) (dBin fCat (dC (.str " ")) (dFL fStrX (dCons (dVar 17) dNil))) [17]))) dNil))))))
theorem gt_ok (S : List Int) (c : Nat) (hc : c ≤ 10000) (sc : W) (v : Nat) (y5 y6 y7 y8 y13 y14 y15 : Option W) (gs : List Gn) (hl : gs.length ≤ 100) (ls : List (List Nat)) (hll : ls.length ≤ 100) :
    ∃ (g : Gn) (c' : Nat) (z13 z14 z15 : Option W), Gok g ∧ c' ≤ c + 20 ∧ gtB cl pt (Ev sc v y5 y6 y7 y8 y13 y14 y15) (Ms pt S c gs ls) = .ok (.nx (Ev sc v y5 y6 y7 y8 z13 z14 z15)) (Ms pt S c' (gs ++ [g]) (ls ++ [lnW (wsG g)])) := by
  obtain ⟨n, n0, n1, hn⟩ := law_next (cl := cl) (pt := pt) 156 S c (by omega) 4 4 (by decide) (Ms pt S c gs ls) rfl
  obtain ⟨sz, rfl⟩ := Int.eq_ofNat_of_zero_le n0
  have sz3 : sz ≤ 3 := by omega
  obtain ⟨pq, hq⟩ : ∃ pq, pq = 2 ^ sz := ⟨_, rfl⟩
  have p8 : pq ≤ 8 := by rw [hq]; exact pw8 sz3
  have hn' : Fn cl pt 159 14 [.r 4, .d (.int 4)] (Ms pt S c gs ls) = .ok (.d (ni sz)) (Ms pt S (c + 1) gs ls) := hn
  obtain ⟨sg, s1, s2, s3⟩ := draws (cl := cl) (pt := pt) (k := 156) (S := S) (i := 4) 999 (by decide) (td := dRngI (dRg1 (dVar 13))) (tg := .name 16) (te := dFL (Fn cl pt 159 14) (dCons (dVar 1) (dCons (dC (.int 999)) (dNil)))) (vs := [16])
    (ρ := Ev sc v y5 y6 y7 y8 (some (.d (ni sz))) y14 y15) (M := Ms pt S (c + 1) gs ls) (c := c + 1) (by omega) rfl sz (by omega) (by simp only [x_rngi, x_rg1, x_v0, x_vS, x_bind, x_krg1, x_krngi (show okRg 0 ((sz : Nat) : Int) = true from okRg_ok (by decide) (by decide) (by omega) (by omega))]) (fun x M' => ⟨_, den_name, by simp only [wipeR, x_fl, x_cons, x_nil, x_v0, x_vS, x_bind, x_c, x_st0, x_stS]⟩)
  have s3' : dLc (dRngI (dRg1 (dVar 13))) (.name 16) (dYes) (dFL (Fn cl pt 159 14) (dCons (dVar 1) (dCons (dC (.int 999)) (dNil)))) [16] (Ev sc v y5 y6 y7 y8 (some (.d (ni sz))) y14 y15) (Ms pt S (c + 1) gs ls) = .ok (.d (.list (sg.map ni))) (Ms pt S (c + 1 + sz) gs ls) := s3
  have sh : ∀ M', fShl (.d (.int 1)) (.d (.int ((sz : Nat) : Int))) M' = .ok (.d (.int ((pq : Nat) : Int))) M' := fun M' => by rw [hq]; exact sh_len (by omega)
  obtain ⟨wd, w1, w2, w3⟩ := draws (cl := cl) (pt := pt) (k := 156) (S := S) (i := 4) 2 (by decide) (td := dRngI (dRg1 (dBin fShl (dC (.int 1)) (dVar 13)))) (tg := .name 16) (te := dFL (Fn cl pt 159 14) (dCons (dVar 1) (dCons (dC (.int 2)) (dNil)))) (vs := [16])
    (ρ := Ev sc v y5 y6 y7 y8 (some (.d (ni sz))) y14 y15) (M := Ms pt S (c + 1 + sz) gs ls) (c := c + 1 + sz) (by omega) rfl pq (by omega) (by simp only [x_rngi, x_rg1, x_bin, x_c, x_v0, x_vS, x_bind, sh, x_krg1, x_krngi (show okRg 0 ((pq : Nat) : Int) = true from okRg_ok (by decide) (by decide) (by omega) (by omega))]) (fun x M' => ⟨_, den_name, by simp only [wipeR, x_fl, x_cons, x_nil, x_v0, x_vS, x_bind, x_c, x_st0, x_stS]⟩)
  have w3' : dLc (dRngI (dRg1 (dBin fShl (dC (.int 1)) (dVar 13)))) (.name 16) (dYes) (dFL (Fn cl pt 159 14) (dCons (dVar 1) (dCons (dC (.int 2)) (dNil)))) [16] (Ev sc v y5 y6 y7 y8 (some (.d (ni sz))) y14 y15) (Ms pt S (c + 1 + sz) gs ls) = .ok (.d (.list (wd.map ni))) (Ms pt S (c + 1 + sz + pq) gs ls) := w3
  have hG : Gok (sg, wd) := ⟨by show sg.length ≤ 3; omega, fun s hs => by have := s2 s hs; omega, by show wd.length = 2 ^ sg.length; rw [w1, s1, hq], fun x hx => by have := w2 x hx; omega⟩
  obtain ⟨M3, hM3⟩ : ∃ M3, M3 = Ms pt S (c + 1 + sz + pq) gs ls := ⟨_, rfl⟩
  have ap1 : fAppend (.r 5) [.d (gE (sg, wd))] (Ms pt S (c + 1 + sz + pq) gs ls) = .ok (.d .none) (Ms pt S (c + 1 + sz + pq) (gs ++ [(sg, wd)]) ls) := by
    rw [x_app (k := 5) (ws := gs.map fun g => W.d (gE g)) rfl (by rw [List.length_map]; omega)]
    show R.ok _ [_, _, _, _, _, O.lst ((gs.map fun g => W.d (gE g)) ++ [W.d (gE (sg, wd))]), _] = _
    rw [show ((gs.map fun g => W.d (gE g)) ++ [W.d (gE (sg, wd))]) = (gs ++ [(sg, wd)]).map fun g => W.d (gE g) by rw [List.map_append]; rfl]
  have ap2 : fAppend (.r 6) [.d (.str (txt (lnW (wsG (sg, wd)))))] (Ms pt S (c + 1 + sz + pq) (gs ++ [(sg, wd)]) ls) = .ok (.d .none) (Ms pt S (c + 1 + sz + pq) (gs ++ [(sg, wd)]) (ls ++ [lnW (wsG (sg, wd))])) := by
    rw [x_app (k := 6) (ws := lsW ls) rfl (by rw [List.length_map]; omega)]
    show R.ok _ [_, _, _, _, _, _, O.lst (lsW ls ++ [W.d (.str (txt (lnW (wsG (sg, wd)))))])] = _
    rw [show lsW ls ++ [W.d (.str (txt (lnW (wsG (sg, wd)))))] = lsW (ls ++ [lnW (wsG (sg, wd))]) by rw [lsW, lsW, List.map_append]; rfl]
  have bt := bits_ok (ρ := Ev sc v y5 y6 y7 y8 (some (.d (ni sz))) (some (.d (.tuple (sg.map ni)))) (some (.d (.tuple (wd.map ni))))) (bs := wd) (i := 15) (j := 18) hG.b (by omega) (fun _ => rfl) (fun _ _ => rfl)
  have sgt := sig_ok (ρ := Ev sc v y5 y6 y7 y8 (some (.d (ni sz))) (some (.d (.tuple (sg.map ni)))) (some (.d (.tuple (wd.map ni))))) (ns := sg) (i := 14) (j := 17) hG.s (by omega) (fun _ => rfl) (fun _ _ => rfl)
  have bl : (bitsL wd).length = wd.length := bits_len hG.b
  have sl : (sigL sg).length ≤ sg.length * 4 := sig_len hG.s
  have c1 : ∀ M, fCat (.d (.str "gate ")) (.d (.str (txt (bitsL wd)))) M = .ok (.d (.str (txt (wGAT ++ [32] ++ bitsL wd)))) M := fun M => x_catS2 (a := wGAT ++ [32]) (by show 5 + _ ≤ _; omega)
  have c2 : ∀ M, fCat (.d (.str (txt (wGAT ++ [32] ++ bitsL wd)))) (.d (.str (txt (sigL sg)))) M = .ok (.d (.str (txt (lnW (wsG (sg, wd)))))) M := fun M => by
    rw [x_catS2 (by
      have e1 : (bitsL wd).length = wd.length := bl
      have e2 : (sigL sg).length ≤ sg.length * 4 := sl
      rw [List.length_append, List.length_append]
      show 4 + 1 + _ + _ ≤ _
      omega), lnG_eq]
  refine ⟨(sg, wd), c + 1 + sz + pq, some (.d (ni sz)), some (.d (.tuple (sg.map ni))), some (.d (.tuple (wd.map ni))), hG, by omega, ?_⟩
  unfold gtB
  have t2 : ∀ (a b : PyData) M', kTup [.d a, .d b] M' = .ok (.d (.tuple [a, b])) M' := fun _ _ _ => x_tup2
  rw [x_seq, x_set]
  simp only [x_fl, x_cons, x_nil, x_v0, x_vS, x_c, x_bind, hn', x_nx, x_st0, x_stS]
  rw [x_seq, x_par, x_cons, x_fl, x_cons, s3', x_bind, x_nil, x_bind, x_bind, x_tuL, x_bind, x_cons, x_fl, x_cons, w3', x_bind, x_nil, x_bind, x_bind, x_tuL, x_bind, x_nil, x_bind, x_bind, x_bind, x_kpar, x_bind, x_nx]
  rw [x_seq, x_expr, x_bm]
  simp only [x_v0, x_vS, x_bind, x_st0, x_stS]
  rw [x_kbm fAppend (k := 5) (ws := gs.map fun g => W.d (gE g)) rfl]
  simp only [x_cons, x_nil, x_tup, x_v0, x_vS, x_bind, t2]
  refine (congrArg (fun z => R.bind (R.bind z _) _) ap1).trans ?_
  rw [x_bind, x_bind, x_nx, x_expr, x_bm]
  simp only [x_v0, x_vS, x_bind]
  rw [x_kbm fAppend (k := 6) (ws := lsW ls) rfl, x_cons, x_bin, x_bin, x_c, x_bind]
  rw [show dTx fJoin (dC (.str "")) (dLc (dSeqI (dVar 15)) (.name 18) (dYes) (dFL fStrX (dCons (dVar 18) dNil)) [18]) _ _ = _ from bt _, x_bind, c1, x_bind]
  rw [show dTx fJoin (dC (.str "")) (dLc (dSeqI (dVar 14)) (.name 17) (dYes) (dBin fCat (dC (.str " ")) (dFL fStrX (dCons (dVar 17) dNil))) [17]) _ _ = _ from sgt _, x_bind, c2, x_bind, x_nil, x_bind, x_bind]
  exact (congrArg (fun z => R.bind z _) ap2).trans rfl

end Pf
namespace Pf
open PySem PySem.Spec PyProof.Rows L2 By
variable {cl pt : Nat → Addr}
abbrev Pp := PyData × Nat × Nat
abbrev pW (p : Pp) : PyData := .tuple [p.1, .tuple [ni p.2.1, ni p.2.2]]
def P1 : List Pp := [(.str "", 1, 1), (.str "input 2", 1, 1), (.str "inputs", 1, 7), (.str "inputs x", 1, 8), (.str "inputs 01", 1, 8), (.str "inputs 1234567", 1, 8), (.str "inputs 2 3", 1, 10)]
def P2 : List Pp := [(.str (("inputs 2\n" : Str) ++ ("gat" : Str)), 2, 1), (.str ("inputs 2\n" : Str), 2, 1)]
def P3 : List Pp := [(.str "inputs 2", 2, 1), (.str (("inputs 2\n" : Str) ++ ("gate 01 2\n" : Str)), 3, 1), (.str (("inputs 2\n" : Str) ++ ("gate 01 2" : Str)), 3, 1), (.str (("inputs 2\n" : Str) ++ ("gate 012 2" : Str)), 2, 6), (.str (("inputs 2\n" : Str) ++ ("gate 01" : Str)), 2, 6), (.str (("inputs 2\n" : Str) ++ ("gate 0110 2" : Str)), 2, 6)]
def P4 : List Pp := [(.str (("inputs 2\n" : Str) ++ ("gate 01 x" : Str)), 2, 9), (.str (("inputs 2\n" : Str) ++ ("gate 0110 2 03" : Str)), 2, 13), (.str (("inputs 2\n" : Str) ++ ("outputs 2 x" : Str)), 2, 11), (.str (("inputs 2\n" : Str) ++ ("outputs 2\n" : Str)), 3, 1)]
def P5 : List Pp := [(.str (("inputs 2\n" : Str) ++ ("outputs\ngate 01 2" : Str)), 3, 1), (.none, 0, 0)]
def P6 : List Pp := [(.str (("inputs 2\n" : Str) ++ ("outputs  2" : Str)), 2, 9), (.str " inputs 2", 1, 1), (.str (("inputs 2\n" : Str) ++ ("gate 01  2" : Str)), 2, 9), (.str (("inputs 2\n" : Str) ++ ("gate" : Str)), 2, 5), (.str (("inputs 2\n" : Str) ++ ("outputs 2 " : Str)), 2, 11), (.int 7, 0, 0)]
def goodP (p : Pp) : Bool := match p.1 with
  | .str s => decide (place s = some (p.2.1, p.2.2)) && (decide ((cps s).length ≤ 100000) && ((spL (cps s)).all (fun l => decide (l.length ≤ 100000)) && decide ((spL (cps s)).length ≤ 80000)))
  | .none => decide (p.2.1 = 0 ∧ p.2.2 = 0)
  | .int _ => decide (p.2.1 = 0 ∧ p.2.2 = 0)
  | _ => false
theorem good_all : (P1 ++ P2 ++ P3 ++ P4 ++ P5 ++ P6).all goodP = true := by decide +kernel
section
variable {M : Mem}
theorem place_good (k : Nat) (p : Pp) (h : goodP p = true) (hT : ∀ q, q < 4 → O.tbl (pt q) ∈ M) : Fn cl pt (k + 11) 15 [.d p.1] M = .ok (.d (.tuple [ni p.2.1, ni p.2.2])) M := by
  obtain ⟨d, a, b⟩ := p
  cases d with
  | str s =>
    unfold goodP at h
    simp only [Bool.and_eq_true, decide_eq_true_eq] at h
    obtain ⟨h1, h2, h3, h4⟩ := h
    have e : txt (cps s) = s := by show (⟨s.cps.toList.toArray⟩ : Str) = s; simp
    unfold place at h1
    split at h1
    · rename_i e0 he
      cases h1
      have := net_ok (cl := cl) (pt := pt) (M := M) k (cps s) h2 h3 h4 hT he
      rw [e] at this
      exact place_ex (cl := cl) (pt := pt) (k + 10) (.str s) a b this
    · cases h1
  | none =>
    have h' : a = 0 ∧ b = 0 := of_decide_eq_true h
    obtain ⟨rfl, rfl⟩ := h'
    exact place_ex (cl := cl) (pt := pt) (k + 10) .none 0 0 (net_no (cl := cl) (pt := pt) (k + 6) .none rfl)
  | int i =>
    have h' : a = 0 ∧ b = 0 := of_decide_eq_true h
    obtain ⟨rfl, rfl⟩ := h'
    exact place_ex (cl := cl) (pt := pt) (k + 10) (.int i) 0 0 (net_no (cl := cl) (pt := pt) (k + 6) (.int i) rfl)
  | _ => cases h
theorem ne_ok {d : PyData} (p : d.plain = true) (h : d.depth ≤ 150) {M : Mem} : fEq true (.d d) (.d d) M = .ok (.d (.bool false)) M := by
  have ok : okEq d d = true := by
    unfold okEq
    rw [p, decide_eq_true (show min d.depth d.depth ≤ 150 by omega)]
    rfl
  rw [x_eqD ok, PySem.SeqAt.eqv_refl_plain d p]
  rfl

noncomputable def tailB (cl pt : Nat → Addr) : DS := (dSeq (dSet 9 (dC (.str "inputs 2\n")))
    (dSeq (dSet 10 (dLst (dCons (dTup (dCons (dC (.str "")) (dCons (dTup (dCons (dC (.int 1)) (dCons (dC (.int 1)) (dNil)))) (dNil)))) (dCons (dTup (dCons (dC (.str "input 2")) (dCons (dTup (dCons (dC (.int 1)) (dCons (dC (.int 1)) (dNil)))) (dNil)))) (dCons (dTup (dCons (dC (.str "inputs")) (dCons (dTup (dCons (dC (.int 1)) (dCons (dC (.int 7)) (dNil)))) (dNil)))) (dCons (dTup (dCons (dC (.str "inputs x")) (dCons (dTup (dCons (dC (.int 1)) (dCons (dC (.int 8)) (dNil)))) (dNil)))) (dCons (dTup (dCons (dC (.str "inputs 01")) (dCons (dTup (dCons (dC (.int 1)) (dCons (dC (.int 8)) (dNil)))) (dNil)))) (dCons (dTup (dCons (dC (.str "inputs 1234567")) (dCons (dTup (dCons (dC (.int 1)) (dCons (dC (.int 8)) (dNil)))) (dNil)))) (dCons (dTup (dCons (dC (.str "inputs 2 3")) (dCons (dTup (dCons (dC (.int 1)) (dCons (dC (.int 10)) (dNil)))) (dNil)))) (dNil))))))))))
    (dSeq (dSet 10 (dBin fCat (dVar 10) (dLst (dCons (dTup (dCons (dBin fCat (dVar 9) (dC (.str "gat"))) (dCons (dTup (dCons (dC (.int 2)) (dCons (dC (.int 1)) (dNil)))) (dNil)))) (dCons (dTup (dCons (dVar 9) (dCons (dTup (dCons (dC (.int 2)) (dCons (dC (.int 1)) (dNil)))) (dNil)))) (dNil))))))
    (dSeq (dSet 10 (dBin fCat (dVar 10) (dLst (dCons (dTup (dCons (dC (.str "inputs 2")) (dCons (dTup (dCons (dC (.int 2)) (dCons (dC (.int 1)) (dNil)))) (dNil)))) (dCons (dTup (dCons (dBin fCat (dVar 9) (dC (.str "gate 01 2\n"))) (dCons (dTup (dCons (dC (.int 3)) (dCons (dC (.int 1)) (dNil)))) (dNil)))) (dCons (dTup (dCons (dBin fCat (dVar 9) (dC (.str "gate 01 2"))) (dCons (dTup (dCons (dC (.int 3)) (dCons (dC (.int 1)) (dNil)))) (dNil)))) (dCons (dTup (dCons (dBin fCat (dVar 9) (dC (.str "gate 012 2"))) (dCons (dTup (dCons (dC (.int 2)) (dCons (dC (.int 6)) (dNil)))) (dNil)))) (dCons (dTup (dCons (dBin fCat (dVar 9) (dC (.str "gate 01"))) (dCons (dTup (dCons (dC (.int 2)) (dCons (dC (.int 6)) (dNil)))) (dNil)))) (dCons (dTup (dCons (dBin fCat (dVar 9) (dC (.str "gate 0110 2"))) (dCons (dTup (dCons (dC (.int 2)) (dCons (dC (.int 6)) (dNil)))) (dNil)))) (dNil))))))))))
    (dSeq (dSet 10 (dBin fCat (dVar 10) (dLst (dCons (dTup (dCons (dBin fCat (dVar 9) (dC (.str "gate 01 x"))) (dCons (dTup (dCons (dC (.int 2)) (dCons (dC (.int 9)) (dNil)))) (dNil)))) (dCons (dTup (dCons (dBin fCat (dVar 9) (dC (.str "gate 0110 2 03"))) (dCons (dTup (dCons (dC (.int 2)) (dCons (dC (.int 13)) (dNil)))) (dNil)))) (dCons (dTup (dCons (dBin fCat (dVar 9) (dC (.str "outputs 2 x"))) (dCons (dTup (dCons (dC (.int 2)) (dCons (dC (.int 11)) (dNil)))) (dNil)))) (dCons (dTup (dCons (dBin fCat (dVar 9) (dC (.str "outputs 2\n"))) (dCons (dTup (dCons (dC (.int 3)) (dCons (dC (.int 1)) (dNil)))) (dNil)))) (dNil))))))))
    (dSeq (dSet 10 (dBin fCat (dVar 10) (dLst (dCons (dTup (dCons (dBin fCat (dVar 9) (dC (.str "outputs\ngate 01 2"))) (dCons (dTup (dCons (dC (.int 3)) (dCons (dC (.int 1)) (dNil)))) (dNil)))) (dCons (dTup (dCons (dC .none) (dCons (dTup (dCons (dC (.int 0)) (dCons (dC (.int 0)) (dNil)))) (dNil)))) (dNil))))))
    (dSeq (dSet 10 (dBin fCat (dVar 10) (dLst (dCons (dTup (dCons (dBin fCat (dVar 9) (dC (.str "outputs  2"))) (dCons (dTup (dCons (dC (.int 2)) (dCons (dC (.int 9)) (dNil)))) (dNil)))) (dCons (dTup (dCons (dC (.str " inputs 2")) (dCons (dTup (dCons (dC (.int 1)) (dCons (dC (.int 1)) (dNil)))) (dNil)))) (dCons (dTup (dCons (dBin fCat (dVar 9) (dC (.str "gate 01  2"))) (dCons (dTup (dCons (dC (.int 2)) (dCons (dC (.int 9)) (dNil)))) (dNil)))) (dCons (dTup (dCons (dBin fCat (dVar 9) (dC (.str "gate"))) (dCons (dTup (dCons (dC (.int 2)) (dCons (dC (.int 5)) (dNil)))) (dNil)))) (dCons (dTup (dCons (dBin fCat (dVar 9) (dC (.str "outputs 2 "))) (dCons (dTup (dCons (dC (.int 2)) (dCons (dC (.int 11)) (dNil)))) (dNil)))) (dCons (dTup (dCons (dC (.int 7)) (dCons (dTup (dCons (dC (.int 0)) (dCons (dC (.int 0)) (dNil)))) (dNil)))) (dNil))))))))))
    (dSeq (dFor (dSeqI (dVar 10)) (.tup [11, 12]) (dIfS (dB (dBin (fEq true) (dFL (Fn cl pt 159 15) (dCons (dVar 11) (dNil))) (dVar 12))) (dRet (dC (.bool false))) (dSkip)))
    (dRet (dC (.bool true)))))))))))
theorem loop_ok (ps : List Pp) (h : ps.all goodP = true) (hT : ∀ q, q < 4 → O.tbl (pt q) ∈ M) (sc : W) (v : Nat) (y5 y6 y7 y8 y9 y10 y13 y14 y15 : Option W) (all : List W) :
    ∃ z11 z12, floop all none (.tup [11, 12]) (dIfS (dB (dBin (fEq true) (dFL (Fn cl pt 159 15) (dCons (dVar 11) (dNil))) (dVar 12))) (dRet (dC (.bool false))) (dSkip)) (ps.map fun p => W.d (pW p)) [some sc, some (.r 4), some (.d (ni v)), some (.r 5), some (.r 6), y5, y6, y7, y8, y9, y10, none, none, y13, y14, y15, none, none, none] M = .ok (.nx [some sc, some (.r 4), some (.d (ni v)), some (.r 5), some (.r 6), y5, y6, y7, y8, y9, y10, z11, z12, y13, y14, y15, none, none, none]) M := by
  have lo := floop_fold (σ := Option W × Option W) (γ := Pp) (all := all) (g := none) (tg := .tup [11, 12]) (body := dIfS (dB (dBin (fEq true) (dFL (Fn cl pt 159 15) (dCons (dVar 11) (dNil))) (dVar 12))) (dRet (dC (.bool false))) (dSkip))
    (fun s => [some sc, some (.r 4), some (.d (ni v)), some (.r 5), some (.r 6), y5, y6, y7, y8, y9, y10, s.1, s.2, y13, y14, y15, none, none, none]) (fun _ => M) (fun p => W.d (pW p)) (fun _ p => (some (.d p.1), some (.d (.tuple [ni p.2.1, ni p.2.2])))) (fun _ => True) (fun p => goodP p = true)
    (fun _ _ => gOk_none _ _) (fun s p _ hp => by
      refine ⟨trivial, [some sc, some (.r 4), some (.d (ni v)), some (.r 5), some (.r 6), y5, y6, y7, y8, y9, y10, some (.d p.1), some (.d (.tuple [ni p.2.1, ni p.2.2])), y13, y14, y15, none, none, none], rfl, ?_⟩
      have pg : Fn cl pt 159 15 [.d p.1] M = .ok (.d (.tuple [ni p.2.1, ni p.2.2])) M := place_good (cl := cl) (pt := pt) 148 p hp hT
      have ne : fEq true (.d (.tuple [ni p.2.1, ni p.2.2])) (.d (.tuple [ni p.2.1, ni p.2.2])) M = .ok (.d (.bool false)) M := ne_ok (by simp [PyData.plain, PyData.plainAll]) (by simp [PyData.depth, PyData.depthAll])
      simp only [x_ifs, x_b, x_bin, x_fl, x_cons, x_nil, x_v0, x_vS, x_bind, pg, ne, x_kb, x_ifF, x_skip]) ps (none, none) trivial (List.all_eq_true.mp h)
  exact ⟨_, _, lo.1⟩
theorem tail_ok (hT : ∀ q, q < 4 → O.tbl (pt q) ∈ M) (sc : W) (v : Nat) (y5 y6 y7 y8 y13 y14 y15 : Option W) : tailB cl pt (Ev sc v y5 y6 y7 y8 y13 y14 y15) M = .ok (.rt (.d (.bool true))) M := by
  have cs : ∀ s : Str, s.length ≤ 100 → ∀ M, fCat (.d (.str "inputs 2\n")) (.d (.str s)) M = .ok (.d (.str (("inputs 2\n" : Str) ++ s))) M := fun s h M => if_pos (by rw [show ("inputs 2\n" : Str).length = 9 by decide +kernel]; omega)
  have f0 : ∀ M, fCat (.d (.str "inputs 2\n")) (.d (.str "gat")) M = .ok (.d (.str (("inputs 2\n" : Str) ++ ("gat" : Str)))) M := fun M => cs "gat" (by decide +kernel) M
  have f1 : ∀ M, fCat (.d (.str "inputs 2\n")) (.d (.str "gate 01 2\n")) M = .ok (.d (.str (("inputs 2\n" : Str) ++ ("gate 01 2\n" : Str)))) M := fun M => cs "gate 01 2\n" (by decide +kernel) M
  have f2 : ∀ M, fCat (.d (.str "inputs 2\n")) (.d (.str "gate 01 2")) M = .ok (.d (.str (("inputs 2\n" : Str) ++ ("gate 01 2" : Str)))) M := fun M => cs "gate 01 2" (by decide +kernel) M
  have f3 : ∀ M, fCat (.d (.str "inputs 2\n")) (.d (.str "gate 012 2")) M = .ok (.d (.str (("inputs 2\n" : Str) ++ ("gate 012 2" : Str)))) M := fun M => cs "gate 012 2" (by decide +kernel) M
  have f4 : ∀ M, fCat (.d (.str "inputs 2\n")) (.d (.str "gate 01")) M = .ok (.d (.str (("inputs 2\n" : Str) ++ ("gate 01" : Str)))) M := fun M => cs "gate 01" (by decide +kernel) M
  have f5 : ∀ M, fCat (.d (.str "inputs 2\n")) (.d (.str "gate 0110 2")) M = .ok (.d (.str (("inputs 2\n" : Str) ++ ("gate 0110 2" : Str)))) M := fun M => cs "gate 0110 2" (by decide +kernel) M
  have f6 : ∀ M, fCat (.d (.str "inputs 2\n")) (.d (.str "gate 01 x")) M = .ok (.d (.str (("inputs 2\n" : Str) ++ ("gate 01 x" : Str)))) M := fun M => cs "gate 01 x" (by decide +kernel) M
  have f7 : ∀ M, fCat (.d (.str "inputs 2\n")) (.d (.str "gate 0110 2 03")) M = .ok (.d (.str (("inputs 2\n" : Str) ++ ("gate 0110 2 03" : Str)))) M := fun M => cs "gate 0110 2 03" (by decide +kernel) M
  have f8 : ∀ M, fCat (.d (.str "inputs 2\n")) (.d (.str "outputs 2 x")) M = .ok (.d (.str (("inputs 2\n" : Str) ++ ("outputs 2 x" : Str)))) M := fun M => cs "outputs 2 x" (by decide +kernel) M
  have f9 : ∀ M, fCat (.d (.str "inputs 2\n")) (.d (.str "outputs 2\n")) M = .ok (.d (.str (("inputs 2\n" : Str) ++ ("outputs 2\n" : Str)))) M := fun M => cs "outputs 2\n" (by decide +kernel) M
  have f10 : ∀ M, fCat (.d (.str "inputs 2\n")) (.d (.str "outputs\ngate 01 2")) M = .ok (.d (.str (("inputs 2\n" : Str) ++ ("outputs\ngate 01 2" : Str)))) M := fun M => cs "outputs\ngate 01 2" (by decide +kernel) M
  have f11 : ∀ M, fCat (.d (.str "inputs 2\n")) (.d (.str "outputs  2")) M = .ok (.d (.str (("inputs 2\n" : Str) ++ ("outputs  2" : Str)))) M := fun M => cs "outputs  2" (by decide +kernel) M
  have f12 : ∀ M, fCat (.d (.str "inputs 2\n")) (.d (.str "gate 01  2")) M = .ok (.d (.str (("inputs 2\n" : Str) ++ ("gate 01  2" : Str)))) M := fun M => cs "gate 01  2" (by decide +kernel) M
  have f13 : ∀ M, fCat (.d (.str "inputs 2\n")) (.d (.str "gate")) M = .ok (.d (.str (("inputs 2\n" : Str) ++ ("gate" : Str)))) M := fun M => cs "gate" (by decide +kernel) M
  have f14 : ∀ M, fCat (.d (.str "inputs 2\n")) (.d (.str "outputs 2 ")) M = .ok (.d (.str (("inputs 2\n" : Str) ++ ("outputs 2 " : Str)))) M := fun M => cs "outputs 2 " (by decide +kernel) M
  have t2 : ∀ (a b : PyData) M', kTup [.d a, .d b] M' = .ok (.d (.tuple [a, b])) M' := fun _ _ _ => x_tup2
  have k1 : ∀ M, kLst (P1.map fun p => W.d (pW p)) M = .ok (.d (.list (P1.map pW))) M := fun M => x_klst rfl rfl
  have k2 : ∀ M, kLst (P2.map fun p => W.d (pW p)) M = .ok (.d (.list (P2.map pW))) M := fun M => x_klst rfl rfl
  have k3 : ∀ M, kLst (P3.map fun p => W.d (pW p)) M = .ok (.d (.list (P3.map pW))) M := fun M => x_klst rfl rfl
  have k4 : ∀ M, kLst (P4.map fun p => W.d (pW p)) M = .ok (.d (.list (P4.map pW))) M := fun M => x_klst rfl rfl
  have k5 : ∀ M, kLst (P5.map fun p => W.d (pW p)) M = .ok (.d (.list (P5.map pW))) M := fun M => x_klst rfl rfl
  have k6 : ∀ M, kLst (P6.map fun p => W.d (pW p)) M = .ok (.d (.list (P6.map pW))) M := fun M => x_klst rfl rfl
  have ct : ∀ (a b : List Pp) M, (a.length + b.length ≤ 1000) → fCat (.d (.list (a.map pW))) (.d (.list (b.map pW))) M = .ok (.d (.list ((a ++ b).map pW))) M := fun a b M h => by
    rw [x_catL (by rw [List.length_map, List.length_map]; omega), List.map_append]
  obtain ⟨z11, z12, lo⟩ := loop_ok (M := M) (P1 ++ P2 ++ P3 ++ P4 ++ P5 ++ P6) good_all hT sc v y5 y6 y7 y8 (some (.d (.str "inputs 2\n"))) (some (.d (.list ((P1 ++ P2 ++ P3 ++ P4 ++ P5 ++ P6).map pW)))) y13 y14 y15 ((P1 ++ P2 ++ P3 ++ P4 ++ P5 ++ P6).map fun p => W.d (pW p))
  have em : ((P1 ++ P2 ++ P3 ++ P4 ++ P5 ++ P6).map pW).map W.d = (P1 ++ P2 ++ P3 ++ P4 ++ P5 ++ P6).map fun p => W.d (pW p) := by rw [List.map_map]; rfl
  unfold tailB
  rw [x_seq, x_set, x_c, x_bind, x_bind, x_nx]
  simp only [x_st0, x_stS]
  rw [x_seq, x_set, x_lst]
  simp only [x_cons, x_nil, x_tup, x_c, x_bind, t2, x_v0, x_vS]
  refine (congrArg (fun z => R.bind (R.bind z _) _) (k1 M)).trans ?_
  simp only [x_bind, x_nx, x_st0, x_stS]

  rw [x_seq, x_set, x_bin]
  simp only [x_v0, x_vS, x_bind]
  rw [x_lst]
  simp only [x_cons, x_nil, x_tup, x_c, x_bind, t2, x_v0, x_vS, x_bin, f0, f1, f2, f3, f4, f5, f6, f7, f8, f9, f10, f11, f12, f13, f14]
  refine (congrArg (fun z => R.bind (R.bind (R.bind z _) _) _) (k2 M)).trans ?_
  rw [x_bind, ct (P1) P2 M (by decide)]
  simp only [x_bind, x_nx, x_st0, x_stS]
  rw [x_seq, x_set, x_bin]
  simp only [x_v0, x_vS, x_bind]
  rw [x_lst]
  simp only [x_cons, x_nil, x_tup, x_c, x_bind, t2, x_v0, x_vS, x_bin, f0, f1, f2, f3, f4, f5, f6, f7, f8, f9, f10, f11, f12, f13, f14]
  refine (congrArg (fun z => R.bind (R.bind (R.bind z _) _) _) (k3 M)).trans ?_
  rw [x_bind, ct (P1 ++ P2) P3 M (by decide)]
  simp only [x_bind, x_nx, x_st0, x_stS]
  rw [x_seq, x_set, x_bin]
  simp only [x_v0, x_vS, x_bind]
  rw [x_lst]
  simp only [x_cons, x_nil, x_tup, x_c, x_bind, t2, x_v0, x_vS, x_bin, f0, f1, f2, f3, f4, f5, f6, f7, f8, f9, f10, f11, f12, f13, f14]
  refine (congrArg (fun z => R.bind (R.bind (R.bind z _) _) _) (k4 M)).trans ?_
  rw [x_bind, ct (P1 ++ P2 ++ P3) P4 M (by decide)]
  simp only [x_bind, x_nx, x_st0, x_stS]
  rw [x_seq, x_set, x_bin]
  simp only [x_v0, x_vS, x_bind]
  rw [x_lst]
  simp only [x_cons, x_nil, x_tup, x_c, x_bind, t2, x_v0, x_vS, x_bin, f0, f1, f2, f3, f4, f5, f6, f7, f8, f9, f10, f11, f12, f13, f14]
  refine (congrArg (fun z => R.bind (R.bind (R.bind z _) _) _) (k5 M)).trans ?_
  rw [x_bind, ct (P1 ++ P2 ++ P3 ++ P4) P5 M (by decide)]
  simp only [x_bind, x_nx, x_st0, x_stS]
  rw [x_seq, x_set, x_bin]
  simp only [x_v0, x_vS, x_bind]
  rw [x_lst]
  simp only [x_cons, x_nil, x_tup, x_c, x_bind, t2, x_v0, x_vS, x_bin, f0, f1, f2, f3, f4, f5, f6, f7, f8, f9, f10, f11, f12, f13, f14]
  refine (congrArg (fun z => R.bind (R.bind (R.bind z _) _) _) (k6 M)).trans ?_
  rw [x_bind, ct (P1 ++ P2 ++ P3 ++ P4 ++ P5) P6 M (by decide)]
  simp only [x_bind, x_nx, x_st0, x_stS]
  rw [x_seq, x_for, x_seqi]
  simp only [x_v0, x_vS, x_bind, x_ksl, em, x_kfor]
  refine (congrArg (fun z => R.bind z _) lo).trans ?_
  rw [x_bind, x_nx, x_ret, x_c, x_bind]
end

end Pf
namespace Pf
open PySem PySem.Spec PyProof.Rows L2 By
variable {cl pt : Nat → Addr}
theorem nt_plain (v : Nat) (gs : List Gn) (os : List Nat) : (ntD v gs os).plain = true := by
  have np : ∀ ns : List Nat, PyData.plainAll (ns.map ni) = true := fun ns => by
    rw [plainAll_iff]
    intro d hd
    obtain ⟨n, _, rfl⟩ := List.mem_map.mp hd
    rfl
  have gp : PyData.plainAll (gs.map gE) = true := by
    rw [plainAll_iff]
    intro d hd
    obtain ⟨g, _, rfl⟩ := List.mem_map.mp hd
    simp only [PyData.plain, PyData.plainAll, np, Bool.and_self]
  simp only [PyData.plain, PyData.plainAll, np, gp, Bool.and_self]
theorem nt_depth (v : Nat) (gs : List Gn) (os : List Nat) : (ntD v gs os).depth ≤ 150 := by
  have nd : ∀ ns : List Nat, PyData.depthAll (ns.map ni) ≤ 1 := fun ns => depthAll_le.mpr fun d hd => by
    obtain ⟨n, _, rfl⟩ := List.mem_map.mp hd
    simp only [PyData.depth]
    omega
  have gd : PyData.depthAll (gs.map gE) ≤ 10 := depthAll_le.mpr fun d hd => by
    obtain ⟨g, _, rfl⟩ := List.mem_map.mp hd
    have a := nd g.1
    have b := nd g.2
    simp only [PyData.depth, PyData.depthAll]
    omega
  have a := nd os
  simp only [PyData.depth, PyData.depthAll]
  omega
noncomputable def midB (cl pt : Nat → Addr) : DS :=
    dSeq (dSet 7 (dTx fJoin (dC (.str "\n")) (dBin fCat (dBin fCat (dLst (dCons (dBin fCat (dC (.str "inputs ")) (dFL fStrX (dCons (dVar 2) dNil))) (dNil))) (dVar 4)) (dLst (dCons (dBin fCat (dC (.str "outputs")) (dTx fJoin (dC (.str "")) (dLc (dSeqI (dVar 6)) (.name 17) (dYes) (dBin fCat (dC (.str " ")) (dFL fStrX (dCons (dVar 17) dNil))) [17]))) (dNil))))))
    (dSeq (dSet 8 (dTup (dCons (dVar 2) (dCons (dFL fTuple (dCons (dVar 3) dNil)) (dCons (dVar 6) (dNil))))))
    (dSeq (dIfS (dOr (dB (dBin (fEq true) (dFL (Fn cl pt 159 0) (dCons (dVar 8) (dNil))) (dVar 7))) (dB (dBin (fEq true) (dFL (Fn cl pt 159 2) (dCons (dVar 7) (dNil))) (dVar 8)))) (dRet (dC (.bool false))) (dSkip)) (tailB cl pt)))
noncomputable def bLaw (cl pt : Nat → Addr) : DS :=
    dSeq (dSet 1 (dLstM (dCons (dSl (dVar 0) (dNoPart) (dPart (dC (.int 63)))) (dCons (dC (.int 0)) (dCons (dC (.int 0)) (dNil))))))
    (dSeq (dPar3 2 3 4 (dCons (dFL (Fn cl pt 159 14) (dCons (dVar 1) (dCons (dC (.int 9)) (dNil)))) (dCons (dLstM (dNil)) (dCons (dLstM (dNil)) (dNil)))))
    (dSeq (dFor (dRngI (dRg1 (dFL (Fn cl pt 159 14) (dCons (dVar 1) (dCons (dC (.int 9)) (dNil)))))) (.name 5) (gtB cl pt))
    (dSeq (dSet 6 (dFL fTuple (dCons (dLc (dRngI (dRg1 (dFL (Fn cl pt 159 14) (dCons (dVar 1) (dCons (dC (.int 4)) (dNil)))))) (.name 16) (dYes) (dFL (Fn cl pt 159 14) (dCons (dVar 1) (dCons (dC (.int 999)) (dNil)))) [16]) dNil)))
    (midB cl pt))))
theorem law_eq : den_law cl pt (Fn cl pt 159) = bLaw cl pt := rfl
theorem ms_tbl (S : List Int) (c : Nat) (gs : List Gn) (ls : List (List Nat)) : ∀ q, q < 4 → O.tbl (pt q) ∈ Ms pt S c gs ls := fun q hq => by
  have : q = 0 ∨ q = 1 ∨ q = 2 ∨ q = 3 := by omega
  rcases this with rfl | rfl | rfl | rfl <;> simp
theorem mid_ok (S : List Int) (c : Nat) (sc : W) (v : Nat) (y5 y13 y14 y15 : Option W) (gs : List Gn) (os : List Nat) (hv : v < 1000) (hg : ∀ g ∈ gs, Gok g) (hgl : gs.length ≤ 100) (ho : ∀ o ∈ os, o < 1000) (hol : os.length ≤ 3) :
    midB cl pt (Ev sc v y5 (some (.d (.tuple (os.map ni)))) none none y13 y14 y15) (Ms pt S c gs (gs.map fun g => lnW (wsG g))) = .ok (.rt (.d (.bool true))) (Ms pt S c gs (gs.map fun g => lnW (wsG g))) := by
  obtain ⟨M, hM⟩ : ∃ M, M = Ms pt S c gs (gs.map fun g => lnW (wsG g)) := ⟨_, rfl⟩
  have hT : ∀ q, q < 4 → O.tbl (pt q) ∈ M := fun q hq => by rw [hM]; exact ms_tbl S c gs _ q hq
  have h6 : M[6]? = some (.lst (lsW (gs.map fun g => lnW (wsG g)))) := by rw [hM]; rfl
  have h5 : M[5]? = some (.lst ((gs.map gE).map W.d)) := by
    rw [hM, List.map_map]
    rfl
  rw [← hM]
  have s1 : fStrX [.d (ni v)] M = .ok (.d (.str (txt (TL.numL v)))) M := str_wo (.n v) M fun k e => by cases e; omega
  have c1 : fCat (.d (.str "inputs ")) (.d (.str (txt (TL.numL v)))) M = .ok (.d (.str (txt (lnW (wsI v))))) M := by
    rw [lnI_eq]
    exact x_catS2 (a := wINP ++ [32]) (b := TL.numL v) (by have := (nok hv).len; show 7 + _ ≤ _; omega)
  have l1 : ∀ a, kLst [.d a] M = .ok (.d (.list [a])) M := fun a => x_lst1
  have lens := nt_lens hv hg ho hol
  have cnt := nt_count v gs os
  have cr : fCat (.d (.list [.str (txt (lnW (wsI v)))])) (.r 6) M = .ok (.d (.list ((lnW (wsI v) :: gs.map fun g => lnW (wsG g)).map fun l => .str (txt l)))) M := by
    have e1 : rd M (.d (.list [.str (txt (lnW (wsI v)))])) = some (.list [.str (txt (lnW (wsI v)))]) := rfl
    unfold fCat
    rw [rd_ls h6, e1]
    refine if_pos ?_
    rw [List.length_map, List.length_map, List.length_singleton]
    omega
  have sg := sig_ok (ρ := Ev sc v y5 (some (.d (.tuple (os.map ni)))) none none y13 y14 y15) (ns := os) (i := 6) (j := 17) ho (by omega) (fun _ => rfl) (fun _ _ => rfl) M
  have sl := sig_len ho
  have c2 : fCat (.d (.str "outputs")) (.d (.str (txt (sigL os)))) M = .ok (.d (.str (txt (lnW (wsO os))))) M := by
    rw [lnO_eq]
    exact x_catS2 (a := wOUT) (by show 7 + _ ≤ _; omega)
  have c3 : fCat (.d (.list ((lnW (wsI v) :: gs.map fun g => lnW (wsG g)).map fun l => .str (txt l)))) (.d (.list [.str (txt (lnW (wsO os)))])) M = .ok (.d (.list ((ntL v gs os).map fun l => .str (txt l)))) M := by
    rw [x_catL (by rw [List.length_map, List.length_cons, List.length_map, List.length_singleton]; omega)]
    unfold ntL
    rw [List.map_append]
    rfl
  have z : ("\n" : Str) = txt [10] := rfl
  have jn := jn_ok [10] (ntL v gs os) (by
    have a := sum_le 54 _ lens
    show _ + _ * 1 ≤ _
    omega) M
  obtain ⟨tx, htx⟩ : ∃ tx, tx = txt (TL.joinL [10] (ntL v gs os)) := ⟨_, rfl⟩
  have t3 : ∀ (a b c : PyData) M', kTup [.d a, .d b, .d c] M' = .ok (.d (.tuple [a, b, c])) M' := fun _ _ _ _ => x_tup3
  have tu : fTuple [.r 5] M = .ok (.d (.tuple (gs.map gE))) M := x_tuD h5
  have nt : Fn cl pt 159 0 [.d (ntD v gs os)] M = .ok (.d (.str tx)) M := by rw [htx]; exact ntext_ok (cl := cl) (pt := pt) 157 v gs os hv hg hgl ho hol M
  have nb : Fn cl pt 159 2 [.d (.str tx)] M = .ok (.d (ntD v gs os)) M := by rw [htx]; exact back_ok (cl := cl) (pt := pt) 149 v gs os hv hg hgl ho hol hT
  have n1 : fEq true (.d (.str tx)) (.d (.str tx)) M = .ok (.d (.bool false)) M := by rw [x_neS, beq_self_eq_true]; rfl
  have n2 : fEq true (.d (ntD v gs os)) (.d (ntD v gs os)) M = .ok (.d (.bool false)) M := ne_ok (nt_plain v gs os) (nt_depth v gs os)
  have tl := tail_ok (cl := cl) (pt := pt) hT sc v y5 (some (.d (.tuple (os.map ni)))) (some (.d (.str tx))) (some (.d (ntD v gs os))) y13 y14 y15
  unfold midB
  rw [x_seq, x_set, x_tx, x_c, x_bind, x_ktx, x_bin, x_bin, x_lst, x_cons, x_bin, x_c, x_bind, x_fl, x_cons]
  simp only [x_v0, x_vS, x_bind, x_nil, s1, c1, l1]
  rw [cr]
  simp only [x_bind]
  rw [x_lst, x_cons, x_bin, x_c, x_bind, sg, x_bind, c2, x_bind, x_nil, x_bind, x_bind, l1, x_bind, c3, x_bind, z, jn, x_bind, ← htx]
  simp only [x_nx, x_st0, x_stS, x_bind, x_seq, x_set, x_tup, x_cons, x_nil, x_v0, x_vS, x_fl, tu, t3, x_ifs, x_or, x_b, x_bin]
  rw [show Fn cl pt 159 0 [.d (.tuple [ni v, .tuple (gs.map gE), .tuple (os.map ni)])] M = _ from nt, x_bind, n1, x_bind, x_kb, x_bind, x_orF]
  simp only [x_b, x_bin, x_fl, x_cons, x_nil, x_v0, x_vS, x_bind, nb]
  rw [show fEq true (.d (ntD v gs os)) (.d (.tuple [ni v, .tuple (gs.map gE), .tuple (os.map ni)])) M = _ from n2]
  simp only [x_bind, x_kb, x_ifF, x_skip, x_nx]
  exact tl
theorem law_true (cl pt : Nat → Addr) (ns : List Int) (hn : ns.length ≤ 63) : ∃ M, Fn cl pt lev 16 [.d (.list (ns.map .int))] (memG none pt 4) = .ok (.d (.bool true)) M := by
  have em : memG none pt 4 = [.tbl (pt 0), .tbl (pt 1), .tbl (pt 2), .tbl (pt 3)] := rfl
  rw [em]
  have hcut : ∀ M', fSl (.d (.list (ns.map .int))) none (some 63) M' = .ok (.d (.list (ns.map .int))) M' := fun M' => by
    have e : cut (ns.map PyData.int) none (some 63) = ns.map PyData.int := by
      unfold cut
      have : HT.sIx (ns.map PyData.int).length (ns.map PyData.int).length (some 63) = ns.length := by
        rw [show ((63 : Int)) = ((63 : Nat) : Int) from rfl, HT.sIx_nat, List.length_map]
        omega
      rw [this, HT.sIx_none, List.drop_zero, Nat.sub_zero, List.take_of_length_le (by rw [List.length_map]; exact Nat.le_refl _)]
    rw [x_slL, e]
  obtain ⟨sc, hsc⟩ : ∃ sc, sc = W.d (PyData.list (ns.map .int)) := ⟨_, rfl⟩
  obtain ⟨v', v0, v1, hv⟩ := law_next (cl := cl) (pt := pt) 156 ns 0 (by omega) 4 9 (by decide) [.tbl (pt 0), .tbl (pt 1), .tbl (pt 2), .tbl (pt 3), dr ns 0] rfl
  obtain ⟨v, rfl⟩ := Int.eq_ofNat_of_zero_le v0
  have hv' : Fn cl pt 159 14 [.r 4, .d (.int 9)] [.tbl (pt 0), .tbl (pt 1), .tbl (pt 2), .tbl (pt 3), dr ns 0] = .ok (.d (ni v)) [.tbl (pt 0), .tbl (pt 1), .tbl (pt 2), .tbl (pt 3), dr ns 1] := hv
  obtain ⟨m', m0, m1, hm⟩ := law_next (cl := cl) (pt := pt) 156 ns 1 (by omega) 4 9 (by decide) (Ms pt ns 1 [] []) rfl
  obtain ⟨m, rfl⟩ := Int.eq_ofNat_of_zero_le m0
  have hm' : Fn cl pt 159 14 [.r 4, .d (.int 9)] (Ms pt ns 1 [] []) = .ok (.d (ni m)) (Ms pt ns 2 [] []) := hm
  have rl : ((rgI 0 ((m : Nat) : Int)).map fun i => W.d (.int i)).length = m := by
    rw [rgI, List.length_map, List.length_map, List.length_range]
    omega
  obtain ⟨ρ', M', lo, gs, c, y5, y13, y14, y15, g1, g2, g3, rfl, rfl⟩ := floop_inv (all := (rgI 0 ((m : Nat) : Int)).map fun i => W.d (.int i)) (g := none) (tg := .name 5) (b := gtB cl pt)
    (fun j ρ M => ∃ (gs : List Gn) (c : Nat) (y5 y13 y14 y15 : Option W), gs.length = j ∧ (∀ g ∈ gs, Gok g) ∧ c ≤ 2 + 20 * j ∧ ρ = Ev sc v y5 none none none y13 y14 y15 ∧ M = Ms pt ns c gs (gs.map fun g => lnW (wsG g)))
    ((rgI 0 ((m : Nat) : Int)).map fun i => W.d (.int i)) 0 (Ev sc v none none none none none none none) (Ms pt ns 2 [] []) ⟨[], 2, none, none, none, none, rfl, (fun _ h => by cases h), by omega, rfl, rfl⟩ (fun _ _ _ _ => gOk_none _ _) (by
    rintro j w ρ M hw ⟨gs, c, y5, y13, y14, y15, g1, g2, g3, rfl, rfl⟩
    rw [Nat.zero_add] at g1 g3
    have hj := (List.getElem?_eq_some_iff.mp hw).1
    rw [rl] at hj
    obtain ⟨g, c', z13, z14, z15, hG, hc', e⟩ := gt_ok (cl := cl) (pt := pt) ns c (by omega) sc v (some w) none none none y13 y14 y15 gs (by omega) (gs.map fun g => lnW (wsG g)) (by rw [List.length_map]; omega)
    refine ⟨_, _, _, den_name, .inl e, gs ++ [g], c', some w, z13, z14, z15, by rw [List.length_append, List.length_singleton]; omega, fun x hx => ?_, by omega, rfl, by rw [List.map_append]; rfl⟩
    rcases List.mem_append.mp hx with q | q
    · exact g2 x q
    · rw [List.mem_singleton.mp q]; exact hG)
  rw [rl, Nat.zero_add] at g1 g3
  obtain ⟨q', q0, q1, hq⟩ := law_next (cl := cl) (pt := pt) 156 ns c (by omega) 4 4 (by decide) (Ms pt ns c gs (gs.map fun g => lnW (wsG g))) rfl
  obtain ⟨q, rfl⟩ := Int.eq_ofNat_of_zero_le q0
  have hq' : Fn cl pt 159 14 [.r 4, .d (.int 4)] (Ms pt ns c gs (gs.map fun g => lnW (wsG g))) = .ok (.d (ni q)) (Ms pt ns (c + 1) gs (gs.map fun g => lnW (wsG g))) := hq
  obtain ⟨os, o1, o2, o3⟩ := draws (cl := cl) (pt := pt) (k := 156) (S := ns) (i := 4) 999 (by decide) (td := dRngI (dRg1 (dC (ni q)))) (tg := .name 16) (te := dFL (Fn cl pt 159 14) (dCons (dVar 1) (dCons (dC (.int 999)) (dNil)))) (vs := [16])
    (ρ := Ev sc v y5 none none none y13 y14 y15) (M := Ms pt ns (c + 1) gs (gs.map fun g => lnW (wsG g))) (c := c + 1) (by omega) rfl q (by omega) (by simp only [x_rngi, x_rg1, x_c, x_bind, x_krg1, x_krngi (show okRg 0 ((q : Nat) : Int) = true from okRg_ok (by decide) (by decide) (by omega) (by omega))]) (fun x M' => ⟨_, den_name, by simp only [wipeR, x_fl, x_cons, x_nil, x_v0, x_vS, x_bind, x_c, x_st0, x_stS]⟩)
  have o4 : dLc (dRngI (dRg1 (dFL (Fn cl pt 159 14) (dCons (dVar 1) (dCons (dC (.int 4)) (dNil)))))) (.name 16) (dYes) (dFL (Fn cl pt 159 14) (dCons (dVar 1) (dCons (dC (.int 999)) (dNil)))) [16] (Ev sc v y5 none none none y13 y14 y15) (Ms pt ns c gs (gs.map fun g => lnW (wsG g))) = .ok (.d (.list (os.map ni))) (Ms pt ns (c + 1 + q) gs (gs.map fun g => lnW (wsG g))) := by
    have o3' : dLc (dRngI (dRg1 (dC (ni q)))) (.name 16) (dYes) (dFL (Fn cl pt 159 14) (dCons (dVar 1) (dCons (dC (.int 999)) (dNil)))) [16] (Ev sc v y5 none none none y13 y14 y15) (Ms pt ns (c + 1) gs (gs.map fun g => lnW (wsG g))) = .ok (.d (.list (os.map ni))) (Ms pt ns (c + 1 + q) gs (gs.map fun g => lnW (wsG g))) := o3
    rw [← o3']
    simp only [x_lc, x_lcw, x_rngi, x_rg1, x_c, x_bind, x_fl, x_cons, x_nil, x_v0, x_vS, hq', x_krg1, x_krngi (show okRg 0 ((q : Nat) : Int) = true from okRg_ok (by decide) (by decide) (by omega) (by omega))]
  have md := mid_ok (cl := cl) (pt := pt) ns (c + 1 + q) sc v y5 y13 y14 y15 gs os (by omega) g2 (by omega) (fun o h => by have := o2 o h; omega) (by omega)
  refine ⟨[.tbl (pt 0), .tbl (pt 1), .tbl (pt 2), .tbl (pt 3)], ?_⟩
  have lv : lev = 159 + 1 := rfl
  rw [lv, fn_law]
  refine def_of rfl (w := .d (.bool true)) (M' := Ms pt ns (c + 1 + q) gs (gs.map fun g => lnW (wsG g))) ?_ (finD_app (M := [.tbl (pt 0), .tbl (pt 1), .tbl (pt 2), .tbl (pt 3)]) (J := [dr ns (c + 1 + q), .lst (gs.map fun g => W.d (gE g)), .lst (lsW (gs.map fun g => lnW (wsG g)))]) rfl)
  rw [law_eq]
  show bLaw cl pt [some (.d (.list (ns.map .int))), none, none, none, none, none, none, none, none, none, none, none, none, none, none, none, none, none, none] [.tbl (pt 0), .tbl (pt 1), .tbl (pt 2), .tbl (pt 3)] = _
  unfold bLaw
  have l3 : kLstM [.d (.list (ns.map .int)), .d (.int 0), .d (.int 0)] [.tbl (pt 0), .tbl (pt 1), .tbl (pt 2), .tbl (pt 3)] = .ok (.r 4) [.tbl (pt 0), .tbl (pt 1), .tbl (pt 2), .tbl (pt 3), dr ns 0] := rfl
  have l5 : kLstM [] [.tbl (pt 0), .tbl (pt 1), .tbl (pt 2), .tbl (pt 3), dr ns 1] = .ok (.r 5) [.tbl (pt 0), .tbl (pt 1), .tbl (pt 2), .tbl (pt 3), dr ns 1, .lst []] := rfl
  have l6 : kLstM [] [.tbl (pt 0), .tbl (pt 1), .tbl (pt 2), .tbl (pt 3), dr ns 1, .lst []] = .ok (.r 6) (Ms pt ns 1 [] []) := rfl
  rw [x_seq, x_set, x_lstM, x_cons, x_sl, x_v0, x_bind, x_nopart, x_bind, x_part, x_c, x_bind, x_kpart, x_bind, hcut, x_bind]
  simp only [x_cons, x_nil, x_c, x_bind, l3, x_nx, x_st0, x_stS]
  rw [← hsc, x_seq, x_par3]
  simp only [x_cons, x_nil, x_fl, x_v0, x_vS, x_c, x_bind, hv', x_lstM, l5, l6, x_kpar3, x_nx, x_st0, x_stS]
  rw [x_seq, x_for, x_rngi, x_rg1]
  simp only [x_fl, x_cons, x_nil, x_v0, x_vS, x_c, x_bind, hm', x_krg1, x_krngi (show okRg 0 ((m : Nat) : Int) = true from okRg_ok (by decide) (by decide) (by omega) (by omega)), x_kfor]
  refine (congrArg (fun z => R.bind z _) lo).trans ?_
  rw [x_bind, x_nx, x_seq, x_set, x_fl, x_cons, o4, x_bind, x_nil, x_bind, x_bind, x_tuL, x_bind, x_bind, x_nx]
  simp only [x_st0, x_stS]
  exact md

end Pf

open PySem PySem.W PyProof.Rows
local macro_rules | `(tactic| o_head ($_ $k $a $e)) => `(tactic| o_head (PySem.W.kmHook $k $a $e [79, 100, 107, 128]))
set_option maxRecDepth 100000 in
set_option maxHeartbeats 0 in
theorem PySem.Challenge.cw_beatscan_k30_nets_as_texts_holds : PySem.Challenge.rw_beatscan_k30_nets_as_texts.Holds := by
  w_on; o_law; k_head; (case hw => w_witness2)
  k_fill
  refine By.walk_byTMx (x := "script") (q0 := none) (ts := [79, 100, 107, 128]) (l := PySem.Challenge.rw_beatscan_k30_nets_as_texts) (k := Pf.lev) (n := 4) (F := fun cl pt => Pf.Fn cl pt Pf.lev 16) rfl rfl ⟨rfl, by decide, by decide⟩ (fun w h Y => ⟨PySem.W.km_in_of Y, PySem.W.km_tabs_of Y⟩) Pf.law_true ?F
  case F =>
    intro w mg fa h KX G hX hmg
    refine' Pf.ends KX G hmg ?a0 ?l0 ?c0 ?k0 ?a1 ?l1 ?c1 ?k1 ?a2 ?l2 ?c2 ?k2 ?a3 ?l3 ?c3 ?k3 ?i3 ?a4 ?l4 ?c4 ?k4 ?i4 ?a5 ?l5 ?c5 ?k5 ?i5 ?a6 ?l6 ?c6 ?k6 ?i6 ?a7 ?l7 ?c7 ?k7 ?i7 ?a8 ?l8 ?c8 ?k8 ?i8 ?a9 ?l9 ?c9 ?k9 ?i9 ?a10 ?l10 ?c10 ?k10 ?a11 ?l11 ?c11 ?k11 ?a12 ?l12 ?c12 ?k12 ?a13 ?l13 ?c13 ?k13 ?a14 ?l14 ?c14 ?k14 ?a15 ?l15 ?c15 ?k15 ?a16 ?l16 ?c16 ?k16 ?ug0 ?pg0 ?hd0 ?pv0 ?sa0 ?mk0 ?kc0 ?n0_join ?n0_line ?n0_number ?n0_split ?n0_words ?ug1 ?xL1 ?xsa1 ?xsu1 ?xse1 ?xty1 ?xkp1 ?xov1 ?xi1 ?xt1 ?xl1 ?xc1 ?xy1 ?xv1 ?xz1 ?xw1 ?xo1 ?xnx1 ?xga1 ?xgg1 ?xhd1 ?xe1 ?xns1 ?xn1_line ?xn1_column ?z_super ?xtop ?xany ?a_FIGURES ?a_MOST_FIGURES ?z_all ?z_enumerate ?z_int ?z_isinstance ?z_len ?z_min ?z_range ?z_str ?z_sum ?z_tuple ?q4 ?r4 ?n4 ?h4 ?m4 ?q7 ?r7 ?n7 ?h7 ?m7 ?q8 ?r8 ?n8 ?h8 ?m8 ?q10 ?r10 ?n10 ?h10 ?m10 ?nP
    (case ug0 => first | k_is | rfl)
    (case ug1 => first | k_is | rfl)
    (case a0 => first | k_is | rfl)
    (case l0 => first | k_is | rfl)
    (case c0 => first | k_is | rfl)
    (case k0 => first | k_is | rfl)
    (case a1 => first | k_is | rfl)
    (case l1 => first | k_is | rfl)
    (case c1 => first | k_is | rfl)
    (case k1 => first | k_is | rfl)
    (case a2 => first | k_is | rfl)
    (case l2 => first | k_is | rfl)
    (case c2 => first | k_is | rfl)
    (case k2 => first | k_is | rfl)
    (case a3 => first | k_is | rfl)
    (case l3 => first | k_is | rfl)
    (case c3 => first | k_is | rfl)
    (case k3 => first | k_is | rfl)
    (case i3 => first | k_is | rfl)
    (case a4 => first | k_is | rfl)
    (case l4 => first | k_is | rfl)
    (case c4 => first | k_is | rfl)
    (case k4 => first | k_is | rfl)
    (case i4 => first | k_is | rfl)
    (case a5 => first | k_is | rfl)
    (case l5 => first | k_is | rfl)
    (case c5 => first | k_is | rfl)
    (case k5 => first | k_is | rfl)
    (case i5 => first | k_is | rfl)
    (case a6 => first | k_is | rfl)
    (case l6 => first | k_is | rfl)
    (case c6 => first | k_is | rfl)
    (case k6 => first | k_is | rfl)
    (case i6 => first | k_is | rfl)
    (case a7 => first | k_is | rfl)
    (case l7 => first | k_is | rfl)
    (case c7 => first | k_is | rfl)
    (case k7 => first | k_is | rfl)
    (case i7 => first | k_is | rfl)
    (case a8 => first | k_is | rfl)
    (case l8 => first | k_is | rfl)
    (case c8 => first | k_is | rfl)
    (case k8 => first | k_is | rfl)
    (case i8 => first | k_is | rfl)
    (case a9 => first | k_is | rfl)
    (case l9 => first | k_is | rfl)
    (case c9 => first | k_is | rfl)
    (case k9 => first | k_is | rfl)
    (case i9 => first | k_is | rfl)
    (case a10 => first | k_is | rfl)
    (case l10 => first | k_is | rfl)
    (case c10 => first | k_is | rfl)
    (case k10 => first | k_is | rfl)
    (case a11 => first | k_is | rfl)
    (case l11 => first | k_is | rfl)
    (case c11 => first | k_is | rfl)
    (case k11 => first | k_is | rfl)
    (case a12 => first | k_is | rfl)
    (case l12 => first | k_is | rfl)
    (case c12 => first | k_is | rfl)
    (case k12 => first | k_is | rfl)
    (case a13 => first | k_is | rfl)
    (case l13 => first | k_is | rfl)
    (case c13 => first | k_is | rfl)
    (case k13 => first | k_is | rfl)
    (case a14 => first | k_is | rfl)
    (case l14 => first | k_is | rfl)
    (case c14 => first | k_is | rfl)
    (case k14 => first | k_is | rfl)
    (case a15 => first | k_is | rfl)
    (case l15 => first | k_is | rfl)
    (case c15 => first | k_is | rfl)
    (case k15 => first | k_is | rfl)
    (case a16 => first | k_is | rfl)
    (case l16 => first | k_is | rfl)
    (case c16 => first | k_is | rfl)
    (case k16 => first | k_is | rfl)
    (case pg0 => first | k_is | rfl)
    (case hd0 => first | k_is | rfl)
    (case pv0 => first | k_is | rfl)
    (case sa0 => first | k_is | rfl)
    (case mk0 => first | k_is | rfl)
    (case kc0 => first | k_is | rfl)
    (case n0_join => first | k_is | rfl)
    (case n0_line => first | k_is | rfl)
    (case n0_number => first | k_is | rfl)
    (case n0_split => first | k_is | rfl)
    (case n0_words => first | k_is | rfl)
    (case xL1 => first | k_is | rfl)
    (case xsa1 => first | k_is | rfl)
    (case xsu1 => first | k_is | rfl)
    (case xse1 => first | k_is | rfl)
    (case xty1 => first | k_is | rfl)
    (case xkp1 => first | k_is | rfl)
    (case xov1 => first | k_is | rfl)
    (case xi1 => first | k_is | rfl)
    (case xt1 => first | k_is | rfl)
    (case xl1 => first | k_is | rfl)
    (case xc1 => first | k_is | rfl)
    (case xy1 => first | k_is | rfl)
    (case xv1 => rfl)
    (case xz1 => first | rfl | decide +kernel)
    (case xw1 => first | k_is | rfl)
    (case xo1 => first | k_is | rfl)
    (case xnx1 => first | k_is | rfl)
    (case xga1 => first | k_is | rfl)
    (case xgg1 => first | k_is | rfl)
    (case xhd1 => first | k_is | rfl)
    (case xe1 => first | k_is | rfl)
    (case xns1 => first | k_is | rfl)
    (case xn1_line => first | k_is | rfl)
    (case xn1_column => first | k_is | rfl)
    (case z_super => first | k_is | rfl)
    (case xtop => first | rfl | decide +kernel)
    (case xany => first | k_is | rfl)
    (case a_FIGURES => first | k_is | rfl | exact ⟨_, rfl⟩ | exact ⟨_, by k_is⟩)
    (case a_MOST_FIGURES => first | k_is | rfl | exact ⟨_, rfl⟩ | exact ⟨_, by k_is⟩)
    (case z_all => first | k_is | rfl)
    (case z_enumerate => first | k_is | rfl)
    (case z_int => first | k_is | rfl)
    (case z_isinstance => first | k_is | rfl)
    (case z_len => first | k_is | rfl)
    (case z_min => first | k_is | rfl)
    (case z_range => first | k_is | rfl)
    (case z_str => first | k_is | rfl)
    (case z_sum => first | k_is | rfl)
    (case z_tuple => first | k_is | rfl)
    (case q4 => first | k_is | rfl)
    (case r4 => rfl)
    (case n4 => first | rfl | decide +kernel)
    (case h4 => kernel_rfl)
    (case m4 => decide)
    (case q7 => first | k_is | rfl)
    (case r7 => rfl)
    (case n7 => first | rfl | decide +kernel)
    (case h7 => kernel_rfl)
    (case m7 => decide)
    (case q8 => first | k_is | rfl)
    (case r8 => rfl)
    (case n8 => first | rfl | decide +kernel)
    (case h8 => kernel_rfl)
    (case m8 => decide)
    (case q10 => first | k_is | rfl)
    (case r10 => rfl)
    (case n10 => first | rfl | decide +kernel)
    (case h10 => kernel_rfl)
    (case m10 => decide)
    (case nP => decide)
