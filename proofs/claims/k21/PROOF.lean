import PyProof.Rows.All
import Wide.All
import OpenK.AllK
import Wide.FinOn
import Lean
import PyProof.EqAt
import PyProof.EqKinds
import PyProof.TupleCall
import PyProof.SetKind
import PyProof.DictWalks
import PyProof.FactsAll.set
import PyProof.CollectWalk
import PyProof.RulesTry
import PyProof.Rows.SetFrom
import PyProof.ListRange
import KE.KDictSum
import PyProof.SeqI3
import PyProof.ExcArgsOwn
import KE.KTryMore
import OpenK.KRaise
import OpenK.KOwn
import PyProof.ExcBaseAll.ValueError
import PyProof.NsDelKeeps
import PyProof.EnumFor
import PyProof.EnumMake
import PyProof.Rows.EnumRows
import PyProof.NeKinds
import PyProof.WalkInts
import KE.KRevIter
import KE.KDictList
import PyProof.ConsumeWalk
import PyProof.Rows.SeqMore2
import PyProof.StrCalls2
import PyProof.StrLawsTight
import PyProof.StrLawsOcc
import PyProof.FitsReplace
import KE.KIntText
import PyProof.StrWalks
import PyProof.Rows.TupAdd
import PyProof.SumWalk
import PyProof.Rows.SeqMore
import PyProof.ZipIter
import KE.KDictOf
import PyProof.IsiH_list
import PyProof.MinMaxWalk
import PyProof.Rows.CallKwBuiltin
import PyProof.Rows.CatFin
import PyProof.Rows.StrClip
import PyProof.TupleIter
import PyProof.WalksMore
import PySem.Challenge.RW_everduel_k21_lists_told
set_option maxRecDepth 100000
set_option maxHeartbeats 4000000

-- CHANGE: your row's module here,as the last of these rows
set_option Elab.async false
set_option linter.all false
namespace L2
open PySem PySem.Spec PyProof.Rows

abbrev Key:=Sum Int Str
def keyIs:Key→Value→Bool
  | .inl k,v=>Value.isInt k v
  | .inr x,v=>Value.isStrOf x v
def keyH (w:World):Key→Int
  | .inl k=>hashInt k
  | .inr x=>hashStr w x
theorem keyIs_shape:∀ {k:Key} {v:Value},keyIs k v = true→(∃ i t,k = Sum.inl i∧v = Value.int i t)∨(∃ x t,k = Sum.inr x∧v = Value.str x t)
  | .inl i,v,h=>by
    obtain ⟨t,e⟩:=Value.isInt_shape (k:=i) (v:=v) h
    exact .inl ⟨i,t,rfl,e⟩
  | .inr x,v,h=>by
    obtain ⟨t,e⟩:=Value.isStrOf_shape (x:=x) (v:=v) h
    exact .inr ⟨x,t,rfl,e⟩
theorem keyIs_int (i:Int) (t:Tok):keyIs (.inl i) (.int i t) = true:=by simp [keyIs,Value.isInt]
theorem keyIs_str (x:Str) (t:Tok):keyIs (.inr x) (.str x t) = true:=by simp [keyIs,Value.isStrOf]
theorem key_ll (a b:Int):decide ((Sum.inl a:Key) = Sum.inl b) = (a == b):=by
  by_cases e:a = b
  · subst e; simp
  · have h:¬ (Sum.inl a:Key) = Sum.inl b:=fun q=>e (Sum.inl.inj q)
    rw [decide_eq_false h]
    exact (beq_eq_false_iff_ne.mpr e).symm
theorem key_rr (a b:Str):decide ((Sum.inr a:Key) = Sum.inr b) = decide (a = b):=by
  by_cases e:a = b
  · subst e; simp
  · have h:¬ (Sum.inr a:Key) = Sum.inr b:=fun q=>e (Sum.inr.inj q)
    rw [decide_eq_false h,decide_eq_false e]
theorem key_lr (a:Int) (b:Str):decide ((Sum.inl a:Key) = Sum.inr b) = false:=decide_eq_false (fun q=>nomatch q)
theorem key_rl (a:Str) (b:Int):decide ((Sum.inr a:Key) = Sum.inl b) = false:=decide_eq_false (fun q=>nomatch q)

def mixKind (prog:Program) (w:World):PySem.KeyKind prog w Key where
  is:=keyIs
  hash:=keyH w
  inj:=fun v a b ha hb=>by
    rcases keyIs_shape ha with ⟨i,t,rfl,rfl⟩ | ⟨x,t,rfl,rfl⟩
    · rcases keyIs_shape hb with ⟨j,u,rfl,e⟩ | ⟨y,u,rfl,e⟩
      · injection e with e1 _; rw [e1]
      · exact nomatch e
    · rcases keyIs_shape hb with ⟨j,u,rfl,e⟩ | ⟨y,u,rfl,e⟩
      · exact nomatch e
      · injection e with e1 _; rw [e1]
  byValue:=fun k v h=>by
    rcases keyIs_shape h with ⟨i,t,rfl,rfl⟩ | ⟨x,t,rfl,rfl⟩<;>rfl
  pyHash:=fun hv h=>by
    rcases keyIs_shape hv with ⟨i,t,rfl,rfl⟩ | ⟨x,t,rfl,rfl⟩
    · exact wpAny_pyHash_int h
    · exact wpAny_pyHash_str h
  eqBool:=fun hu hv h=>by
    rcases keyIs_shape hu with ⟨i,t,rfl,rfl⟩ | ⟨x,t,rfl,rfl⟩
    · rcases keyIs_shape hv with ⟨j,u,rfl,rfl⟩ | ⟨y,u,rfl,rfl⟩
      · rw [key_ll] at h; exact wpAny_eqBool_int h
      · rw [key_lr] at h; exact SeqAt.EqAt.int_str i t y u _ _ _ _ h
    · rcases keyIs_shape hv with ⟨j,u,rfl,rfl⟩ | ⟨y,u,rfl,rfl⟩
      · rw [key_rl] at h; exact SeqAt.EqAt.str_int x t j u _ _ _ _ h
      · rw [key_rr] at h; exact wpAny_eqBool_str h
  «strs»:=fun k x t v h=>by
    rcases keyIs_shape h with ⟨i,u,rfl,e⟩ | ⟨y,u,rfl,e⟩
    · exact nomatch e
    · injection e with e1 _
      subst e1
      cases v<;>rfl

theorem mixKind_int (prog:Program) (w:World) (i:Int) (t:Tok):(mixKind prog w).is (.inl i) (.int i t) = true:=keyIs_int i t
theorem mixKind_str (prog:Program) (w:World) (x:Str) (t:Tok):(mixKind prog w).is (.inr x) (.str x t) = true:=keyIs_str x t
end L2

namespace L2
open PySem PySem.Spec PyProof.Rows

inductive V where
  | non | bl (b:Bool) | int (i:Int) | str (x:Str) | byt (b:Array UInt8) | flt (b:UInt64) | ref (a:Addr) | ty (n:String)
  deriving DecidableEq

def RelV:V→Value→Prop
  | .non,u=>u = Value.none
  | .bl b,u=>u = Value.bool b
  | .int i,u=>∃ t,u = Value.int i t
  | .str x,u=>∃ t,u = Value.str x t
  | .byt b,u=>∃ t,u = Value.bytes b t
  | .flt b,u=>∃ t,u = Value.float b t
  | .ref a,u=>u = Value.ref a
  | .ty n,u=>u = Value.type n

abbrev Vals:List V→List Value→Prop:=Paired RelV
theorem Vals.length {xs:List V} {us:List Value} (r:Vals xs us):xs.length = us.length:=Paired.length r
theorem Vals.get:∀ {xs:List V} {us:List Value} {i:Nat} {x:V},Vals xs us→xs[i]? = some x→∃ u,us[i]? = some u∧RelV x u
  | _,_,_,_,.nil,e=>by simp at e
  | _,_,0,_,.cons r _,e=>by simp at e; subst e; exact ⟨_,rfl,r⟩
  | _,_,i+1,x,.cons _ t,e=>by
    obtain ⟨u,h1,h2⟩:=Vals.get (i:=i) (x:=x) t (by simpa using e)
    exact ⟨u,by simpa using h1,h2⟩
theorem Vals.set {x:V} {u:Value} (r:RelV x u):∀ {xs:List V} {us:List Value} (i:Nat),Vals xs us→Vals (xs.set i x) (us.set i u)
  | _,_,_,.nil=>.nil
  | _,_,0,.cons _ t=>.cons r t
  | _,_,i+1,.cons q t=>.cons q (Vals.set r i t)
theorem Vals.append:∀ {xs ys:List V} {us ws:List Value},Vals xs us→Vals ys ws→Vals (xs++ys) (us++ws)
  | _,_,_,_,.nil,s=>s
  | _,_,_,_,.cons r t,s=>.cons r (Vals.append t s)
theorem Vals.take:∀ {xs:List V} {us:List Value} (n:Nat),Vals xs us→Vals (xs.take n) (us.take n)
  | _,_,0,_=>.nil
  | _,_,_+1,.nil=>.nil
  | _,_,n+1,.cons r t=>.cons r (Vals.take n t)
theorem Vals.drop:∀ {xs:List V} {us:List Value} (n:Nat),Vals xs us→Vals (xs.drop n) (us.drop n)
  | _,_,0,r=>r
  | _,_,_+1,.nil=>.nil
  | _,_,n+1,.cons _ t=>Vals.drop n t
def RelO:Option V→Option Value→Prop
  | some v,some u=>RelV v u
  | none,none=>True
  | _,_=>False
def KV {κ:Type}:List (κ×V)→List (κ×Value)→Prop:=Paired fun (p:κ×V) (q:κ×Value)=>p.1 = q.1∧RelV p.2 q.2

def kV:Key→V
  | .inl i=>.int i
  | .inr x=>.str x

inductive HO where
    | lst (xs:List V)
    | tup (xs:List V)
    | dK (kvs:List (Key×V)) | dT (kvs:List (List Key×V))
    | set (S:Int→Bool) (n:Nat)
    | ins (C dx:Addr) (fs:List (Str×V))
    | own (x:Addr)
    | xd (fs:List (Str×V))
    | met (f x:Addr)
    | rng (lo hi:Int)
    | frz (o:Obj) (u:HO)
    | tbl (ps:Array Value)
    | ext (φ:Heap→Prop)

abbrev Hp:=Addr→Option HO
def upd (H:Hp) (a:Addr) (o:HO):Hp:=fun b=>if b = a then some o else H b
theorem upd_same {H:Hp} {a:Addr} {o:HO}:upd H a o a = some o:=by unfold upd; rw [if_pos rfl]
theorem upd_ne {H:Hp} {a b:Addr} {o:HO} (h:b≠a):upd H a o b = H b:=by unfold upd; rw [if_neg h]
theorem ne_of {H:Hp} {a b:Addr} {o u:HO} (h:H a = some o) (h':H b = some u) (d:o≠u):a≠b:=by
  intro e; subst e; rw [h] at h'; exact d (Option.some.inj h')
theorem ne_of_none {H:Hp} {a b:Addr} {o:HO} (h:H a = some o) (h':H b = none):a≠b:=by
  intro e; subst e; rw [h] at h'; cases h'

section
variable (P:Program) (w:World)
def ObjOk (H:Hp) (h:Heap) (a:Addr):HO→Prop
  | .lst xs=>xs.length≤sizeLine∧∃ (its:List Value) (n:Nat),Vals xs its∧h.get? a = some { cls:=.type "list",data:=.seq its.toArray n }
  | .tup xs=>xs.length≤sizeLine∧∃ its:List Value,Vals xs its∧IsTup h a its.toArray
  | .dK kvs=>kvs.length≤sizeLine∧(a == sysModules) = false∧∃ vs,KV kvs vs∧h.DictOf (mixKind P w) a vs
  | .dT kvs=>kvs.length≤sizeLine∧(a == sysModules) = false∧∃ xs:List (List Key×Addr×Value),
      Paired (fun (p:List Key×V) (q:List Key×Addr×Value)=>p.1 = q.1∧H q.2.1 = some (.tup (p.1.map kV))∧RelV p.2 q.2.2) kvs xs ∧
      ∃ o es ep,h.get? a = some o∧o.ExactDict∧o.data = .dict es ep∧es.toList = xs.map (entryOfKey (tupleKind (mixKind P w)))∧(xs.map (·.1)).Nodup
  | .set S n=>h.SetOf (intKind P w) a S n
  | .ins C dx fs=>H dx = some (.own a)∧fs.length≤1000∧dx≠a∧h.get? a = some (PySem.W.instObj C dx) ∧
      ∃ mA,h.Ns1 dx mA∧(∀ f,RelO (fs.lookup f) (mA f))∧PySem.Within mA (fs.map (·.1))
  | .own _=>∃ o,h.get? a = some o
  | .xd fs=>∃ mA,h.Ns1 a mA∧∀ f,RelO (fs.lookup f) (mA f)
  | .rng lo hi=>∃ t u v,h.get? a = some { cls:=.type "range",data:=.fields #[.int lo t,.int hi u,.int 1 v] }
  | .frz o u=>h.get? a = some o∧ObjOk H h a u
  | .tbl ps=>h.get? a = some { cls:=.none,data:=.fields ps }
  | .met f x=>h.get? a = some (PySem.W.methodObj (.ref f) (.ref x))
  | .ext φ=>φ h∧(∃ o,h.get? a = some o)∧∀ h1 h2:Heap,φ h1→(∀ o,h1.get? a = some o→h2.get? a = some o)→φ h2
def HOk (H:Hp) (h:Heap):Prop:=∀ a o,H a = some o→ObjOk P w H h a o
end

section
variable {P:Program} {w:World} {H H':Hp} {h h':Heap} {a:Addr} {o:HO}
theorem ObjOk.lt (x:ObjOk P w H h a o):a < h.objs.size:=by
  cases o with
  | lst xs=>obtain ⟨_,_,_,_,e⟩:=x; exact Heap.lt_size e
  | tup xs=>obtain ⟨_,_,_,p⟩:=x; exact p.lt
  | dK kvs=>obtain ⟨_,_,_,_,o,_,_,e,_⟩:=x; exact Heap.lt_size e
  | dT kvs=>obtain ⟨_,_,_,_,o,_,_,e,_⟩:=x; exact Heap.lt_size e
  | set S n=>obtain ⟨o,_,_,_,e,_⟩:=x; exact Heap.lt_size e
  | ins C dx fs=>obtain ⟨_,_,_,e,_⟩:=x; exact Heap.lt_size e
  | own y=>obtain ⟨_,e⟩:=x; exact Heap.lt_size e
  | xd fs=>obtain ⟨_,⟨_,_,_,e,_⟩,_⟩:=x; exact Heap.lt_size e
  | rng lo hi=>obtain ⟨_,_,_,e⟩:=x; exact Heap.lt_size e
  | frz ob u=>obtain ⟨e,_⟩:=x; exact Heap.lt_size e
  | tbl ps=>exact Heap.lt_size (show h.get? a = some _ from x)
  | met f y=>exact Heap.lt_size (show h.get? a = some _ from x)
  | ext φ=>obtain ⟨_,⟨_,e⟩,_⟩:=x; exact Heap.lt_size e
theorem Paired.mapP {α β:Type} {F G:α→β→Prop}:∀ {l₁:List α} {l₂:List β},Paired F l₁ l₂→(∀ a b,F a b→G a b)→Paired G l₁ l₂
  | _,_,.nil,_=>.nil
  | _,_,.cons r t,f=>.cons (f _ _ r) (Paired.mapP t f)
theorem Paired.imp' {α β:Type} {F G:α→β→Prop} (f:∀ a b,F a b→G a b) {l₁:List α} {l₂:List β} (r:Paired F l₁ l₂):Paired G l₁ l₂:=Paired.mapP r f
theorem ObjOk.stay (x:ObjOk P w H h a o) (k:∀ b u,(b = a∨H b = some (.own a))→h.get? b = some u→h'.get? b = some u)
    (ho:∀ b,H b = some (.own a)→H' b = some (.own a)) (ht:∀ b xs,H b = some (.tup xs)→H' b = some (.tup xs)):ObjOk P w H' h' a o:=by
  induction o with
  | lst xs=>obtain ⟨z,its,n,r,e⟩:=x; exact ⟨z,its,n,r,k _ _ (.inl rfl) e⟩
  | tup xs=>obtain ⟨z,its,r,ob,e,c⟩:=x; exact ⟨z,its,r,ob,k _ _ (.inl rfl) e,c⟩
  | dK kvs=>obtain ⟨z,y,vs,r,ob,es,ep,e,c⟩:=x; exact ⟨z,y,vs,r,ob,es,ep,k _ _ (.inl rfl) e,c⟩
  | dT kvs =>
    obtain ⟨z,y,xs,r,ob,es,ep,e,c⟩:=x
    exact ⟨z,y,xs,Paired.mapP r fun p q z=>⟨z.1,ht _ _ z.2.1,z.2.2⟩,ob,es,ep,k _ _ (.inl rfl) e,c⟩
  | set S n=>obtain ⟨ob,es,ep,t,e,c⟩:=x; exact ⟨ob,es,ep,t,k _ _ (.inl rfl) e,c⟩
  | ins C dx fs =>
    obtain ⟨d,z,ne,e,mA,⟨od,es,ep,e2,c⟩,r⟩:=x
    exact ⟨ho _ d,z,ne,k _ _ (.inl rfl) e,mA,⟨od,es,ep,k _ _ (.inr d) e2,c⟩,r⟩
  | own y=>obtain ⟨ob,e⟩:=x; exact ⟨ob,k _ _ (.inl rfl) e⟩
  | xd fs=>obtain ⟨mA,⟨od,es,ep,e,c⟩,r⟩:=x; exact ⟨mA,⟨od,es,ep,k _ _ (.inl rfl) e,c⟩,r⟩
  | rng lo hi=>obtain ⟨t,u,v,e⟩:=x; exact ⟨t,u,v,k _ _ (.inl rfl) e⟩
  | frz ob u ih=>obtain ⟨e,q⟩:=x; exact ⟨k _ _ (.inl rfl) e,ih q⟩
  | tbl ps =>
    have e:h.get? a = some { cls:=.none,data:=.fields ps }:=x
    show h'.get? a = some { cls:=.none,data:=.fields ps }
    exact k a _ (.inl rfl) e
  | met f y =>
    have e:h.get? a = some (PySem.W.methodObj (.ref f) (.ref y)):=x
    show h'.get? a = some (PySem.W.methodObj (.ref f) (.ref y))
    exact k a _ (.inl rfl) e
  | ext φ=>obtain ⟨p,⟨o,e⟩,st⟩:=x; exact ⟨st _ _ p fun o q=>k _ _ (.inl rfl) q,⟨o,k _ _ (.inl rfl) e⟩,st⟩
theorem HOk.lt (x:HOk P w H h) (e:H a = some o):a < h.objs.size:=(x a o e).lt
theorem HOk.fresh (x:HOk P w H h) (e:h.objs.size≤a):H a = none:=by
  cases q:H a with
  | none=>rfl
  | some u=>exact absurd (Nat.lt_of_lt_of_le (x.lt q) e) (Nat.lt_irrefl _)
theorem HOk.kept (x:HOk P w H h) (k:∀ b u,h.get? b = some u→h'.get? b = some u):HOk P w H h':=fun a o e =>
  (x a o e).stay (fun b u _ q=>k b u q) (fun _ q=>q) fun _ _ q=>q
theorem HOk.laid (x:HOk P w H h) (k:∀ b u,h.get? b = some u→h'.get? b = some u) (hp:h.objs.size≤a) (new:ObjOk P w (upd H a o) h' a o):HOk P w (upd H a o) h':=fun b u e=>by
  have hn:=x.fresh hp
  by_cases hb:b = a
  · subst hb; rw [upd_same] at e; cases e; exact new
  · rw [upd_ne hb] at e
    exact (x b u e).stay (fun c v _ q=>k c v q) (fun c q=>by rw [upd_ne (ne_of_none q hn)]; exact q) fun c xs q=>by rw [upd_ne (ne_of_none q hn)]; exact q
end

def Rd (H:Hp) (a:Addr) (u:HO):Prop:=H a = some u∨∃ o,H a = some (.frz o u)
theorem Rd.of {H:Hp} {a:Addr} {u:HO} (h:H a = some u):Rd H a u:=.inl h
theorem Rd.ok {P:Program} {w:World} {H:Hp} {h:Heap} {a:Addr} {u:HO} (r:Rd H a u) (x:HOk P w H h):ObjOk P w H h a u:=by
  rcases r with r | ⟨o,r⟩
  · exact x a u r
  · obtain ⟨_,q⟩:=x a _ r
    exact q
def Mut:Option HO→Prop
  | some (.lst _)=>True
  | some (.dK _)=>True
  | some (.dT _)=>True
  | some (.set _ _)=>True
  | some (.ins _ _ _)=>True
  | some (.ext _)=>True
  | _=>False
section
variable {P:Program} {w:World} {H:Hp} {h h':Heap} {x e:Addr} {o':HO}
theorem HOk.write (ok:HOk P w H h) (mu:Mut (H x)) (he:e = x∨H e = some (.own x)) (k:∀ b u,b≠e→h.get? b = some u→h'.get? b = some u) (heo:∃ u,h'.get? e = some u)
    (new:ObjOk P w (upd H x o') h' x o'):HOk P w (upd H x o') h':=fun b u q=>by
  have nown:∀ c y,H c = some (.own y)→c≠x:=fun c y r z=>by subst z; rw [r] at mu; exact mu
  have ntup:∀ c xs,H c = some (.tup xs)→c≠x:=fun c xs r z=>by subst z; rw [r] at mu; exact mu
  by_cases hb:b = x
  · subst hb; rw [upd_same] at q; cases q; exact new
  · rw [upd_ne hb] at q
    by_cases hbe:b = e
    · have q':H b = some (.own x):=by
        rcases he with z | z
        · exact absurd (hbe.trans z) hb
        · rw [hbe]; exact z
      rw [q] at q'; cases q'
      obtain ⟨v,hv⟩:=heo
      exact ⟨v,by rw [hbe]; exact hv⟩
    · refine (ok b u q).stay (fun c v hc r=>k c v ?_ r) (fun c r=>by rw [upd_ne (nown c b r)]; exact r) fun c xs r=>by rw [upd_ne (ntup c xs r)]; exact r
      rcases hc with rfl | hc
      · exact hbe
      · rintro rfl
        rcases he with z | z
        · exact nown c b hc z
        · rw [hc] at z; cases z; exact hb rfl
end

structure Un (fs ex:List Addr) (H H':Hp) (h h':Heap):Prop where
  keep:∀ b o,h.get? b = some o→H b = none→b∉fs→b∉ex→h'.get? b = some o
  slot:∀ b o,h.get? b = some o→H b = none→b∈fs→b∉ex→∃ sl,h'.get? b = some { o with slots:=sl }
  free:∀ b o,h.get? b = some o→H b = none→b∉ex→H' b = none
  there:∀ b o,h.get? b = some o→b∉ex→∃ o',h'.get? b = some o'
  tups:∀ b xs,H b = some (.tup xs)→H' b = some (.tup xs)
  frzs:∀ b o u,H b = some (.frz o u)→H' b = some (.frz o u)
  tbls:∀ b ps,H b = some (.tbl ps)→∃ more,H' b = some (.tbl (ps++more))
section
variable {fs fs' ex ex':List Addr} {H H1 H2:Hp} {h h1 h2 h':Heap} {a x e:Addr} {o:HO}
theorem Un.any (u:Un fs ex H H1 h h1) {b:Addr} {ob:Obj} (q:h.get? b = some ob) (n:H b = none) (hx:b∉ex):∃ sl,h1.get? b = some { ob with slots:=sl }:=by
  by_cases hb:b∈fs
  · exact u.slot b ob q n hb hx
  · exact ⟨ob.slots,u.keep b ob q n hb hx⟩
theorem Un.trans (a:Un fs ex H H1 h h1) (b:Un fs ex H1 H2 h1 h2):Un fs ex H H2 h h2 where
  keep:=fun c ob q n hc hx=>b.keep c ob (a.keep c ob q n hc hx) (a.free c ob q n hx) hc hx
  slot:=fun c ob q n hc hx=>by
    obtain ⟨sl,e1⟩:=a.slot c ob q n hc hx
    obtain ⟨sl',e2⟩:=b.slot c _ e1 (a.free c ob q n hx) hc hx
    exact ⟨sl',e2⟩
  free:=fun c ob q n hx=>by
    obtain ⟨o',e1⟩:=a.there c ob q hx
    exact b.free c o' e1 (a.free c ob q n hx) hx
  there:=fun c ob q hx=>by
    obtain ⟨o',e1⟩:=a.there c ob q hx
    exact b.there c o' e1 hx
  tups:=fun c xs q=>b.tups c xs (a.tups c xs q)
  frzs:=fun c ob xs q=>b.frzs c ob xs (a.frzs c ob xs q)
  tbls:=fun c ps q=>by
    obtain ⟨m1,e1⟩:=a.tbls c ps q
    obtain ⟨m2,e2⟩:=b.tbls c _ e1
    exact ⟨m1++m2,by rw [e2,Array.append_assoc]⟩
theorem Un.kept (k:∀ b u,h.get? b = some u→h'.get? b = some u):Un fs ex H H h h' :=
  ⟨fun b ob q _ _ _=>k b ob q,fun b ob q _ _ _=>⟨ob.slots,k b ob q⟩,fun _ _ _ n _=>n,fun b ob q _=>⟨ob,k b ob q⟩,fun _ _ q=>q,fun _ _ _ q=>q,fun _ ps q=>⟨#[],by rw [q]; simp⟩⟩
theorem Un.refl:Un fs ex H H h h:=Un.kept fun _ _ q=>q
theorem Un.laid (k:∀ b u,h.get? b = some u→h'.get? b = some u) (hp:h.objs.size≤a) (hn:H a = none):Un fs ex H (upd H a o) h h' where
  keep:=fun b u q _ _ _=>k b u q
  slot:=fun b u q _ _ _=>⟨u.slots,k b u q⟩
  free:=fun b u q n _=>by rw [upd_ne (Nat.ne_of_lt (Nat.lt_of_lt_of_le (Heap.lt_size q) hp))]; exact n
  there:=fun b u q _=>⟨u,k b u q⟩
  tups:=fun b xs q=>by rw [upd_ne (ne_of_none q hn)]; exact q
  frzs:=fun b u xs q=>by rw [upd_ne (ne_of_none q hn)]; exact q
  tbls:=fun b ps q=>⟨#[],by rw [upd_ne (ne_of_none q hn),q]; simp⟩
theorem Un.write (mu:Mut (H x)) (he:e = x∨H e = some (.own x)) (k:∀ b u,b≠e→h.get? b = some u→h'.get? b = some u) (heo:∃ u,h'.get? e = some u):Un fs ex H (upd H x o) h h':=by
  have hx:∀ b,H b = none→b≠x:=fun b n z=>by subst z; rw [n] at mu; exact mu
  have hb:∀ b,H b = none→b≠e:=fun b n z=>by
    subst z
    rcases he with r | r
    · exact hx b n r
    · rw [n] at r; cases r
  have hm:∀ b u,H b = some u→¬ Mut (some u)→b≠x:=fun b u q nm z=>by subst z; rw [q] at mu; exact nm mu
  refine ⟨fun b u q n _ _=>k b u (hb b n) q,fun b u q n _ _=>⟨u.slots,k b u (hb b n) q⟩,fun b u q n _=>by rw [upd_ne (hx b n)]; exact n,fun b u q _=>?_,
    fun b xs q=>by rw [upd_ne (hm b _ q fun z=>z)]; exact q,fun b u xs q=>by rw [upd_ne (hm b _ q fun z=>z)]; exact q,fun b ps q=>⟨#[],by rw [upd_ne (hm b _ q fun z=>z),q]; simp⟩⟩
  by_cases hbe:b = e
  · subst hbe; exact heo
  · exact ⟨u,k b u hbe q⟩
theorem Un.mono (u:Un fs ex H H1 h h1) (hs:∀ b∈fs,b∈fs') (hx:∀ b∈ex,b∈ex'):Un fs' ex' H H1 h h1 :=
  ⟨fun b ob q n hb he=>u.keep b ob q n (fun z=>hb (hs b z)) fun z=>he (hx b z),fun _ _ q n _ he=>u.any q n fun z=>he (hx _ z),fun b ob q n he=>u.free b ob q n fun z=>he (hx b z),fun b ob q he=>u.there b ob q fun z=>he (hx b z),u.tups,u.frzs,u.tbls⟩
end

def trk (h:Heap) (H:Hp):List Addr:=(List.range h.objs.size).filter fun a=>(H a).isSome
def hidT (h:Heap) (H:Hp):Heap:=PySem.W.hideAll h (trk h H)
theorem hidT_size (h:Heap) (H:Hp):(hidT h H).objs.size = h.objs.size:=PySem.W.hideAll_size _ _
theorem hidT_get {h:Heap} {H:Hp} {b:Addr} {o:Obj} (e:h.get? b = some o) (n:H b = none):(hidT h H).get? b = some o :=
  PySem.W.hideAll_get _ e fun hm=>by
    have q:(H b).isSome = true:=(List.mem_filter.mp hm).2
    rw [n] at q; simp at q
theorem of_hidT {h:Heap} {H:Hp} {b:Addr} {o:Obj} (e:(hidT h H).get? b = some o):h.get? b = some o∧H b = none:=by
  have e':h.get? b = some o:=PySem.W.of_hideAll (trk h H) e
  refine ⟨e',?_⟩
  cases q:H b with
  | none=>rfl
  | some x =>
    have hm:b∈trk h H:=List.mem_filter.mpr ⟨List.mem_range.mpr (Heap.lt_size e'),by simp [q]⟩
    have z:(hidT h H).get? b = none:=PySem.W.hideAll_none (trk h H) hm
    rw [z] at e; cases e

def allNews (g h:Heap) (L:Addr):List (Addr×Obj):=(List.range h.objs.size).filterMap fun a=>if a = L∨(g.get? a).isSome = true then none else (h.get? a).map fun o=>(a,o)
def rest (g h:Heap) (L d:Addr):List (Addr×Obj):=(allNews g h L).filter fun p=>decide (p.1≠d)
end L2

namespace L2
open PySem PySem.Spec PyProof.Rows

structure Mod (K:PySem.W.Frag) (mg:Str→Option Value) (base:Heap):Prop where
  kin:K.In base
  glob:base.Ns mainGlobals mg
  blt:∃ mb,base.Ns builtinsNs mb∧∀ x:Str,x≠"__name__"→mb x = bootBuiltins x
  nolimit:base.NoLimit

structure Cx where
  prog:Program
  w:World
  K:PySem.W.Frag
  mg:Str→Option Value
  base:Heap
  A:Around
  N:List Str
  s₀:Shared
  H₀:Hp
  env:Env
  outer:List Env
  stack:List Env
  ex:List Addr
  fn:Str→Bool
  calm:Bool
  pn:List (Addr×Obj)
  xe:Value→Shared→Prop
def frs (l:List Env):List Addr:=l.filterMap (·.frame)
abbrev Cx.fs (X:Cx):List Addr:=frs X.outer

def Vis (sc:Scope) (x:Str):Prop:=sc.names.lookup x = some .local∨sc.names.lookup x = some .cell∨sc.names.lookup x = some .free
def Loc (sc:Scope) (x:Str):Prop:=sc.names.lookup x = some .local∨sc.names.lookup x = some .cell
def Look (env:Env) (h:Heap) (m:Str→Option Value) (x:Str) (u:Value):Prop :=
  (env.kindOf x = some .local∧m x = some u)∨((env.kindOf x = some .cell∨env.kindOf x = some .free)∧∃ c,env.cells.lookup x = some c∧h.IsCell c (some u))

structure Cx.Ok (X:Cx):Prop where
  mod:Mod X.K X.mg X.base
  kind:X.env.scope.kind = .function
  glob:X.env.globals = mainGlobals
  blt:X.env.builtins = builtinsNs
  above:X.s₀.heap.objs.size≤X.env.locals
  inj:∀ x y c,X.env.cells.lookup x = some c→X.env.cells.lookup y = some c→x = y
  has:∀ x,(X.env.kindOf x = some .cell∨X.env.kindOf x = some .free)→∃ c,X.env.cells.lookup x = some c
  cab:∀ x c,X.fn x = true→X.env.cells.lookup x = some c→X.s₀.heap.objs.size≤c
  hd:X.calm = true→X.A.handled = none
  frames:X.A.frames = some X.stack
  stk:X.stack = X.outer∨(X.stack = X.env::X.outer∧X.env.frame = some X.env.locals)
  exf:∀ b∈X.ex,b≠X.env.locals∧∀ x c,X.env.cells.lookup x = some c→c≠b
  bs:∀ b o,X.base.get? b = some o→X.s₀.heap.get? b = some o∧X.H₀ b = none
  bsz:X.base.objs.size≤X.s₀.heap.objs.size
  noex:∀ b o,X.base.get? b = some o→b∉X.ex
  exfs:∀ b∈X.ex,b∉X.fs
  funs:X.s₀.heap.FunFrames X.base X.outer
  frf:∀ b∈X.fs,X.H₀ b = none

structure Inv (X:Cx) (pins:List (Addr×Obj)) (σ:List (Option V)) (H:Hp) (s:Shared):Prop where
  ok:X.Ok
  os:s.os = X.s₀.os
  bare:AllBare s.gens
  base:Un X.fs X.ex X.H₀ H X.s₀.heap s.heap
  loc:∃ m,s.heap.Ns X.env.locals m∧∀ (i:Nat) (x:Str) (v:V),X.N[i]? = some x→σ[i]? = some (some v)→Vis X.env.scope x→∃ u,RelV v u∧Look X.env s.heap m x u
  cell:∀ x c,X.env.cells.lookup x = some c→∃ v,s.heap.IsCell c v
  free:H X.env.locals = none
  freeC:∀ x c,X.env.cells.lookup x = some c→H c = none
  pin:∀ p∈X.pn++pins,s.heap.get? p.1 = some p.2∧H p.1 = none∧p.1≠X.env.locals∧p.1∉X.fs∧∀ v,p.2.data≠.cell v
  hok:HOk X.prog X.w H s.heap
  len:σ.length = X.N.length

section
variable {X:Cx} {pins:List (Addr×Obj)} {σ:List (Option V)} {H H':Hp} {s:Shared} {h':Heap}

theorem Cx.Ok.nofr (ok:X.Ok) {b:Addr} {o:Obj} (e:X.base.get? b = some o):b∉X.fs:=fun hb=>by
  have:=(ok.funs.mem hb).1
  rw [e] at this; cases this
theorem Inv.bs (I:Inv X pins σ H s):∀ b o,X.base.get? b = some o→s.heap.get? b = some o∧H b = none:=fun b o e =>
  ⟨I.base.keep b o (I.ok.bs b o e).1 (I.ok.bs b o e).2 (I.ok.nofr e) (I.ok.noex b o e),I.base.free b o (I.ok.bs b o e).1 (I.ok.bs b o e).2 (I.ok.noex b o e)⟩
theorem Inv.bk (I:Inv X pins σ H s):∀ b o,X.base.get? b = some o→s.heap.get? b = some o:=fun b o e=>(I.bs b o e).1
theorem Inv.mod (I:Inv X pins σ H s):Mod X.K X.mg X.base:=I.ok.mod
theorem Inv.kIn (I:Inv X pins σ H s):X.K.In s.heap:=I.ok.mod.kin.keeps I.bk
theorem Inv.nolimit (I:Inv X pins σ H s):s.heap.NoLimit:=I.ok.mod.nolimit.keeps I.bk
theorem Inv.fr (I:Inv X pins σ H s):∃ m,Fr X.base X.env.locals s.heap m :=
  let ⟨m,hn,_⟩:=I.loc
  ⟨m,hn,I.bk,Nat.le_trans I.ok.bsz I.ok.above⟩
theorem Inv.lt (I:Inv X pins σ H s):X.env.locals < s.heap.objs.size:=let ⟨_,hn,_⟩:=I.loc; hn.lt
theorem Inv.sz (I:Inv X pins σ H s):X.s₀.heap.objs.size≤s.heap.objs.size:=Nat.le_trans I.ok.above (Nat.le_of_lt I.lt)
theorem Inv.nofs (I:Inv X pins σ H s) {a:Addr} (h:s.heap.objs.size≤a):a∉X.fs:=fun hb=>by
  obtain ⟨_,o,ho,_⟩:=I.ok.funs.mem hb
  exact absurd (Nat.lt_of_lt_of_le (Heap.lt_size ho) (Nat.le_trans I.sz h)) (Nat.lt_irrefl _)
theorem Inv.cne (I:Inv X pins σ H s):∀ x c,X.env.cells.lookup x = some c→c≠X.env.locals:=fun x c e z=>by
  obtain ⟨v,o,ho,hd⟩:=I.cell x c e
  obtain ⟨m,⟨o',es,ep,ho',hd',_⟩,_⟩:=I.loc
  rw [z,ho'] at ho; cases ho; rw [hd'] at hd; cases hd
theorem Inv.funs (I:Inv X pins σ H s):s.heap.FunFrames X.base X.outer:=by
  have all:∀ (l:List Env),(∀ b∈frs l,b∈X.fs)→X.s₀.heap.FunFrames X.base l→s.heap.FunFrames X.base l:=by
    intro l
    induction l with
    | nil=>intro _ _; trivial
    | cons env r ih =>
      intro hs hl
      obtain ⟨hk,⟨L,o,hf,hn,ho,hd⟩,hr⟩:=hl
      have hL:L∈X.fs:=hs L (by unfold frs; rw [List.filterMap_cons,hf]; exact List.mem_cons_self)
      obtain ⟨sl,e⟩:=I.base.slot L o ho (I.ok.frf L hL) hL fun z=>I.ok.exfs L z hL
      exact ⟨hk,⟨L,_,hf,hn,e,hd⟩,ih (fun b hb=>hs b (by unfold frs; rw [List.filterMap_cons,hf]; exact List.mem_cons_of_mem _ hb)) hr⟩
  exact all X.outer (fun _ hb=>hb) I.ok.funs

theorem Inv.stack (I:Inv X pins σ H s):s.heap.FunFrames X.base X.stack:=by
  rcases I.ok.stk with e | ⟨e,hf⟩
  · rw [e]; exact I.funs
  · rw [e]
    obtain ⟨m,hn,_⟩:=I.loc
    refine .cons (by rw [I.ok.kind]; decide) hf hn ?_ I.funs
    exact Heap.get?_none_of_le (Nat.le_trans I.ok.bsz I.ok.above)
theorem Inv.stkSub (I:Inv X pins σ H s):∀ b∈frs X.stack,b∈X.env.locals::X.fs:=fun b hb=>by
  rcases I.ok.stk with e | ⟨e,hf⟩
  · rw [e] at hb; exact List.mem_cons_of_mem _ hb
  · rw [e] at hb
    unfold frs at hb
    rw [List.filterMap_cons,hf] at hb
    exact hb
theorem Inv.stkFree (I:Inv X pins σ H s):∀ b∈frs X.stack,H b = none:=fun b hb=>by
  rcases List.mem_cons.mp (I.stkSub b hb) with e | hb
  · rw [e]; exact I.free
  · obtain ⟨_,o,ho,_⟩:=I.ok.funs.mem hb
    exact I.base.free b o ho (I.ok.frf b hb) fun z=>I.ok.exfs b z hb

theorem Inv.step {g':Array GenState} {t':Nat} {d':Drawn} {ch:List Addr} (I:Inv X pins σ H s)
    (hch:∀ b∈ch,(b∈X.ex∨X.s₀.heap.objs.size≤b)∧b≠X.env.locals∧(∀ x c,X.env.cells.lookup x = some c→c≠b)∧∀ p∈X.pn++pins,p.1≠b)
    (keep:∀ b o,b≠X.env.locals→b∉X.fs→b∉ch→s.heap.get? b = some o→H b = none→h'.get? b = some o)
    (slot:∀ b o,b≠X.env.locals→b∈X.fs→b∉ch→s.heap.get? b = some o→H b = none→∃ sl,h'.get? b = some { o with slots:=sl }) (free:∀ b o,b∉ch→s.heap.get? b = some o→H b = none→H' b = none)
    (there:∀ b o,b∉ch→s.heap.get? b = some o→∃ o',h'.get? b = some o')
    (tups:∀ b xs,H b = some (.tup xs)→H' b = some (.tup xs)) (frzs:∀ b o u,H b = some (.frz o u)→H' b = some (.frz o u)) (tbls:∀ b ps,H b = some (.tbl ps)→∃ more,H' b = some (.tbl (ps++more)))
    (ns:∀ m,s.heap.Ns X.env.locals m→h'.Ns X.env.locals m) (hok:HOk X.prog X.w H' h') (hg:AllBare g') :
    Inv X pins σ H' { s with heap:=h',gens:=g',drawn:=d',toks:=t' }:=by
  have neL:∀ b o,X.s₀.heap.get? b = some o→b≠X.env.locals:=fun b o e=>Nat.ne_of_lt (Nat.lt_of_lt_of_le (Heap.lt_size e) I.ok.above)
  have neC:∀ b o,X.s₀.heap.get? b = some o→b∉X.ex→b∉ch:=fun b o e hx hb=>by
    rcases (hch b hb).1 with z | z
    · exact hx z
    · exact absurd (Nat.lt_of_lt_of_le (Heap.lt_size e) z) (Nat.lt_irrefl _)
  have cellK:∀ x c,X.env.cells.lookup x = some c→∀ v,s.heap.IsCell c v→h'.IsCell c v:=fun x c e v ⟨o,ho,hd⟩=>by
    have nch:c∉ch:=fun z=>(hch c z).2.2.1 x c e rfl
    by_cases hc:c∈X.fs
    · obtain ⟨sl,q⟩:=slot c o (I.cne x c e) hc nch ho (I.freeC x c e)
      exact ⟨_,q,hd⟩
    · exact ⟨o,keep c o (I.cne x c e) hc nch ho (I.freeC x c e),hd⟩
  refine ⟨I.ok,I.os,hg,⟨fun b o e n hb hx=>?_,fun b o e n hb hx=>?_,fun b o e n hx=>?_,fun b o e hx=>?_,fun b xs e=>tups b xs (I.base.tups b xs e),fun b o xs e=>frzs b o xs (I.base.frzs b o xs e),fun b ps e=>?_⟩,?_,fun x c e=>?_,?_,fun x c e=>?_,fun p hp=>?_,hok,I.len⟩
  · exact keep b o (neL b o e) hb (neC b o e hx) (I.base.keep b o e n hb hx) (I.base.free b o e n hx)
  · obtain ⟨sl,e1⟩:=I.base.slot b o e n hb hx
    obtain ⟨sl',e2⟩:=slot b _ (neL b o e) hb (neC b o e hx) e1 (I.base.free b o e n hx)
    exact ⟨sl',e2⟩
  · obtain ⟨o',e1⟩:=I.base.there b o e hx
    exact free b o' (neC b o e hx) e1 (I.base.free b o e n hx)
  · obtain ⟨o',e1⟩:=I.base.there b o e hx
    exact there b o' (neC b o e hx) e1
  · obtain ⟨m1,e1⟩:=I.base.tbls b ps e
    obtain ⟨m2,e2⟩:=tbls b _ e1
    exact ⟨m1++m2,by rw [e2,Array.append_assoc]⟩
  · obtain ⟨m,hn,hl⟩:=I.loc
    refine ⟨m,ns m hn,fun i x v e1 e2 e3=>?_⟩
    obtain ⟨u,r,l⟩:=hl i x v e1 e2 e3
    refine ⟨u,r,?_⟩
    rcases l with l | ⟨k,c,e,z⟩
    · exact .inl l
    · exact .inr ⟨k,c,e,cellK x c e _ z⟩
  · obtain ⟨v,z⟩:=I.cell x c e
    exact ⟨v,cellK x c e v z⟩
  · obtain ⟨m,⟨o,_,_,ho,_⟩,_⟩:=I.loc
    exact free _ o (fun z=>(hch _ z).2.1 rfl) ho I.free
  · obtain ⟨v,o,ho,hd⟩:=I.cell x c e
    exact free c o (fun z=>(hch c z).2.2.1 x c e rfl) ho (I.freeC x c e)
  · obtain ⟨e,n,ne,nf,d⟩:=I.pin p hp
    have nch:p.1∉ch:=fun z=>(hch p.1 z).2.2.2 p hp rfl
    exact ⟨keep p.1 p.2 ne nf nch e n,free p.1 p.2 nch e n,ne,nf,d⟩
theorem Inv.un {t':Nat} (I:Inv X pins σ H s) (u:Un X.fs [] H H' s.heap h') (hok:HOk X.prog X.w H' h'):Inv X pins σ H' { s with heap:=h',toks:=t' }:=by
  obtain ⟨m,⟨o,es,ep,ho,r⟩,_⟩:=id I.loc
  obtain ⟨sl,hL⟩:=u.any ho I.free (by simp)
  exact I.step (g':=s.gens) (d':=s.drawn) (ch:=[]) (fun _ z=>nomatch z) (fun b o _ hb _ e n=>u.keep b o e n hb (by simp)) (fun b o _ hb _ e n=>u.slot b o e n hb (by simp)) (fun b o _ e n=>u.free b o e n (by simp)) (fun b o _ e=>u.there b o e (by simp)) u.tups u.frzs u.tbls (fun m' hm=>by
    obtain ⟨o',es',ep',ho',r'⟩:=hm
    rw [ho] at ho'; cases ho'
    exact ⟨_,es',ep',hL,r'⟩) hok I.bare
theorem Inv.call {g':Array GenState} {t':Nat} {d':Drawn} {ch:List Addr} (I:Inv X pins σ H s) (u:Un (frs X.stack) ch H H' s.heap h') (hok:HOk X.prog X.w H' h') (hg:AllBare g')
    (hch:∀ b∈ch,(b∈X.ex∨X.s₀.heap.objs.size≤b)∧b≠X.env.locals∧(∀ x c,X.env.cells.lookup x = some c→c≠b)∧∀ p∈X.pn++pins,p.1≠b) :
    Inv X pins σ H' { s with heap:=h',gens:=g',drawn:=d',toks:=t' }:=by
  obtain ⟨m,⟨o,es,ep,ho,r⟩,_⟩:=id I.loc
  obtain ⟨sl,hL⟩:=u.any ho I.free fun z=>(hch _ z).2.1 rfl
  exact I.step (ch:=ch) hch (fun b o hL hb hc e n=>u.keep b o e n (fun z=>(List.mem_cons.mp (I.stkSub b z)).elim hL hb) hc) (fun b o _ _ hc e n=>u.any e n hc) (fun b o hc e n=>u.free b o e n hc) (fun b o hc e=>u.there b o e hc) u.tups u.frzs u.tbls (fun m' hm=>by
    obtain ⟨o',es',ep',ho',r'⟩:=hm
    rw [ho] at ho'; cases ho'
    exact ⟨_,es',ep',hL,r'⟩) hok hg
theorem Inv.turned {t':Nat} {it:Addr} (I:Inv X pins σ H s) (k:∀ b o,b≠it→s.heap.get? b = some o→h'.get? b = some o) (hn:H it = none) (hL:it≠X.env.locals)
    (h1:it∈X.ex∨X.s₀.heap.objs.size≤it) (h2:∀ x c,X.env.cells.lookup x = some c→c≠it) (h3:∀ p∈X.pn++pins,p.1≠it):Inv X pins σ H { s with heap:=h',toks:=t' }:=by
  have nit:∀ b u,H b = some u→b≠it:=fun b u e z=>by rw [z,hn] at e; cases e
  refine I.step (g':=s.gens) (d':=s.drawn) (ch:=[it]) (fun b hb=>?_) (fun b o _ _ hc e _=>k b o (fun z=>hc (by simp [z])) e) (fun b o _ _ hc e _=>⟨o.slots,k b o (fun z=>hc (by simp [z])) e⟩) (fun _ _ _ _ n=>n)
    (fun b o hc e=>⟨o,k b o (fun z=>hc (by simp [z])) e⟩) (fun _ _ e=>e) (fun _ _ _ e=>e) (fun b ps e=>⟨#[],by rw [e]; simp⟩) (fun m hm=>?_) (fun b u e=>?_) I.bare
  · have e:b = it:=by simpa using hb
    subst e
    exact ⟨h1,hL,h2,h3⟩
  · obtain ⟨o,es,ep,ho,r⟩:=hm
    exact ⟨o,es,ep,k _ o (Ne.symm hL) ho,r⟩
  · refine (I.hok b u e).stay (fun c v hc q=>k c v ?_ q) (fun _ q=>q) fun _ _ q=>q
    rcases hc with z | z
    · rw [z]; exact nit b u e
    · exact nit c _ z
theorem Inv.tok (I:Inv X pins σ H s) (t:Nat):Inv X pins σ H { s with toks:=t }:=I.un (h':=s.heap) (t':=t) Un.refl I.hok
theorem Inv.kept {t':Nat} (I:Inv X pins σ H s) (k:∀ b u,s.heap.get? b = some u→h'.get? b = some u):Inv X pins σ H { s with heap:=h',toks:=t' }:=I.un (Un.kept k) (I.hok.kept k)
theorem Inv.laid {a:Addr} {o:HO} {t':Nat} (I:Inv X pins σ H s) (k:∀ b u,s.heap.get? b = some u→h'.get? b = some u) (hp:s.heap.objs.size≤a) (new:ObjOk X.prog X.w (upd H a o) h' a o) :
    Inv X pins σ (upd H a o) { s with heap:=h',toks:=t' }:=I.un (Un.laid k hp (I.hok.fresh hp)) (I.hok.laid k hp new)
theorem Inv.write {x e:Addr} {o:HO} {t':Nat} (I:Inv X pins σ H s) (mu:Mut (H x)) (he:e = x∨H e = some (.own x)) (k:∀ b u,b≠e→s.heap.get? b = some u→h'.get? b = some u) (heo:∃ u,h'.get? e = some u)
    (new:ObjOk X.prog X.w (upd H x o) h' x o):Inv X pins σ (upd H x o) { s with heap:=h',toks:=t' }:=I.un (Un.write mu he k heo) (I.hok.write mu he k heo new)
theorem Inv.weak {σ':List (Option V)} (I:Inv X pins σ H s) (hl:σ'.length = σ.length) (w:∀ (i:Nat) v,σ'[i]? = some (some v)→σ[i]? = some (some v)):Inv X pins σ' H s :=
  ⟨I.ok,I.os,I.bare,I.base,let ⟨m,hn,hl'⟩:=I.loc; ⟨m,hn,fun i x v e1 e2 e3=>hl' i x v e1 (w i v e2) e3⟩,I.cell,I.free,I.freeC,I.pin,I.hok,hl.trans I.len⟩
theorem Inv.pins_of {pins':List (Addr×Obj)} (I:Inv X pins σ H s) (h:∀ p∈pins',s.heap.get? p.1 = some p.2∧H p.1 = none∧p.1≠X.env.locals∧p.1∉X.fs∧∀ v,p.2.data≠.cell v):Inv X pins' σ H s :=
  ⟨I.ok,I.os,I.bare,I.base,I.loc,I.cell,I.free,I.freeC,fun p hp=>(List.mem_append.mp hp).elim (fun z=>I.pin p (List.mem_append_left _ z)) (h p),I.hok,I.len⟩

theorem nodup_ix {N:List Str} (hN:N.Nodup) {i j:Nat} {x:Str} (a:N[i]? = some x) (b:N[j]? = some x):i = j:=by
  obtain ⟨h1,e1⟩:=List.getElem?_eq_some_iff.mp a
  obtain ⟨h2,e2⟩:=List.getElem?_eq_some_iff.mp b
  exact (List.getElem_inj hN).mp (e1.trans e2.symm)

theorem store_ok2 {M:Model} {A:Around} {E:Value→Shared→Prop} {i:Nat} {x:Str} {v:V} {u:Value} {Q:Unit→Shared→Prop} (I:Inv X pins σ H s) (hN:X.N.Nodup) (hi:X.N[i]? = some x) (hx:Loc X.env.scope x) (r:RelV v u)
    (h:∀ s',Inv X pins (σ.set i (some v)) H s'→(∃ a,Heap.SameBut a s.heap s'.heap∧(a = X.env.locals∨X.env.cells.lookup x = some a))→Q () s') (hf:X.fn x = true∨X.env.scope.names.lookup x = some .local:=by first | exact .inl rfl | exact .inr rfl | assumption):wpAny M A (storeName X.env x u) Q E s:=by
  obtain ⟨m,hn,hl⟩:=id I.loc
  have hcls:(X.env.scope.kind == .class || (X.env.scope.kind == .module && X.env.locals != X.env.globals)) = false:=by rw [I.ok.kind]; rfl
  have hiσ:i < σ.length:=by rw [I.len]; exact (List.getElem?_eq_some_iff.mp hi).1
  have cne:=I.cne
  have tracked:∀ {a:Addr} {h':Heap},(∃ o,s.heap.get? a = some o∧H a = none)→Heap.SameBut a s.heap h'→HOk X.prog X.w H h':=fun {a h'} ha hs b ob e=>by
    obtain ⟨_,_,hfree⟩:=ha
    refine (I.hok b ob e).stay (fun c w' hc q=>(hs.2 c ?_).trans q) (fun _ q=>q) fun _ _ q=>q
    rintro rfl
    rcases hc with rfl | hc
    · rw [hfree] at e; cases e
    · rw [hfree] at hc; cases hc
  rcases hx with hk | hk
  · refine wpAny_storeName_local hk hn (fun h' hn' hs=>?_) hcls
    obtain ⟨oL,_,_,hoL,_⟩:=id hn
    refine h _ ⟨I.ok,I.os,I.bare,⟨fun b o e n hb hx=>?_,fun b o e n hb hx=>?_,I.base.free,fun b o e hx=>?_,I.base.tups,I.base.frzs,I.base.tbls⟩,⟨_,hn',fun j y v' e1 e2 e3=>?_⟩,fun y c e=>?_,I.free,I.freeC,fun p hp=>?_,tracked ⟨oL,hoL,I.free⟩ hs,by simpa using I.len⟩ ⟨_,hs,.inl rfl⟩
    · exact (hs.2 b (Nat.ne_of_lt (Nat.lt_of_lt_of_le (Heap.lt_size e) I.ok.above))).trans (I.base.keep b o e n hb hx)
    · obtain ⟨sl,e1⟩:=I.base.slot b o e n hb hx
      exact ⟨sl,(hs.2 b (Nat.ne_of_lt (Nat.lt_of_lt_of_le (Heap.lt_size e) I.ok.above))).trans e1⟩
    · obtain ⟨o',e1⟩:=I.base.there b o e hx
      exact ⟨o',(hs.2 b (Nat.ne_of_lt (Nat.lt_of_lt_of_le (Heap.lt_size e) I.ok.above))).trans e1⟩
    · by_cases hj:j = i
      · subst hj
        rw [hi] at e1; cases e1
        rw [List.getElem?_set_self hiσ] at e2
        cases e2
        exact ⟨u,r,.inl ⟨hk,by simp⟩⟩
      · rw [List.getElem?_set_ne (Ne.symm hj)] at e2
        obtain ⟨u',r',q⟩:=hl j y v' e1 e2 e3
        refine ⟨u',r',?_⟩
        rcases q with ⟨k,e⟩ | ⟨k,c,e,z⟩
        · refine .inl ⟨k,?_⟩
          have:y≠x:=fun e=>hj (nodup_ix hN e1 (e▸hi))
          simp [this,e]
        · exact .inr ⟨k,c,e,z.sameBut hs (cne y c e)⟩
    · obtain ⟨w',z⟩:=I.cell y c e
      exact ⟨w',z.sameBut hs (cne y c e)⟩
    · obtain ⟨e,n,ne,nf,d⟩:=I.pin p hp
      exact ⟨(hs.2 p.1 ne).trans e,n,ne,nf,d⟩
  · have hfn:X.fn x = true:=by
      rcases hf with z | z
      · exact z
      · rw [z] at hk; cases hk
    obtain ⟨c,hc⟩:=I.ok.has x (.inl hk)
    obtain ⟨w',z⟩:=I.cell x c hc
    refine wpAny_storeName_cell I.ok.kind hk hc z (fun h' hc' hs=>?_)
    obtain ⟨oc,hoc,hocd⟩:=id z
    refine h { s with heap:=h' } ⟨I.ok,I.os,I.bare,⟨fun b o e n hb hx=>?_,fun b o e n hb hx=>?_,I.base.free,fun b o e hx=>?_,I.base.tups,I.base.frzs,I.base.tbls⟩,⟨m,hn.sameBut hs (Ne.symm (cne x c hc)),fun j y v' e1 e2 e3=>?_⟩,fun y c' e=>?_,I.free,I.freeC,fun p hp=>?_,tracked ⟨oc,hoc,I.freeC x c hc⟩ hs,by simpa using I.len⟩ ⟨c,hs,.inr hc⟩
    · exact (hs.2 b (Nat.ne_of_lt (Nat.lt_of_lt_of_le (Heap.lt_size e) (I.ok.cab x c hfn hc)))).trans (I.base.keep b o e n hb hx)
    · obtain ⟨sl,e1⟩:=I.base.slot b o e n hb hx
      exact ⟨sl,(hs.2 b (Nat.ne_of_lt (Nat.lt_of_lt_of_le (Heap.lt_size e) (I.ok.cab x c hfn hc)))).trans e1⟩
    · obtain ⟨o',e1⟩:=I.base.there b o e hx
      exact ⟨o',(hs.2 b (Nat.ne_of_lt (Nat.lt_of_lt_of_le (Heap.lt_size e) (I.ok.cab x c hfn hc)))).trans e1⟩
    · by_cases hj:j = i
      · subst hj
        rw [hi] at e1; cases e1
        rw [List.getElem?_set_self hiσ] at e2
        cases e2
        exact ⟨u,r,.inr ⟨.inl hk,c,hc,hc'⟩⟩
      · rw [List.getElem?_set_ne (Ne.symm hj)] at e2
        obtain ⟨u',r',q⟩:=hl j y v' e1 e2 e3
        refine ⟨u',r',?_⟩
        rcases q with q | ⟨k,c',e,z'⟩
        · exact .inl q
        · refine .inr ⟨k,c',e,z'.sameBut hs ?_⟩
          rintro rfl
          exact hj (nodup_ix hN e1 (I.ok.inj _ _ _ e hc▸hi))
    · by_cases hcc:c' = c
      · subst hcc; exact ⟨_,hc'⟩
      · obtain ⟨w2,z2⟩:=I.cell y c' e
        exact ⟨w2,z2.sameBut hs hcc⟩
    · obtain ⟨e,n,ne,nf,d⟩:=I.pin p hp
      refine ⟨(hs.2 p.1 ?_).trans e,n,ne,nf,d⟩
      intro q
      rw [q,hoc] at e
      have q':oc = p.2:=Option.some.inj e
      exact d w' (by rw [← q']; exact hocd)
theorem store_ok {M:Model} {A:Around} {E:Value→Shared→Prop} {i:Nat} {x:Str} {v:V} {u:Value} {Q:Unit→Shared→Prop} (I:Inv X pins σ H s) (hN:X.N.Nodup) (hi:X.N[i]? = some x) (hx:Loc X.env.scope x) (r:RelV v u)
    (h:∀ s',Inv X pins (σ.set i (some v)) H s'→Q () s') (hf:X.fn x = true∨X.env.scope.names.lookup x = some .local:=by first | exact .inl rfl | exact .inr rfl | assumption):wpAny M A (storeName X.env x u) Q E s :=
  store_ok2 I hN hi hx r (fun s' I' _=>h s' I') hf
theorem Inv.call' {s':Shared} {ch:List Addr} (I:Inv X pins σ H s) (ho:s'.os = s.os) (u:Un (frs X.stack) ch H H' s.heap s'.heap) (hok:HOk X.prog X.w H' s'.heap) (hg:AllBare s'.gens)
    (hch:∀ b∈ch,(b∈X.ex∨X.s₀.heap.objs.size≤b)∧b≠X.env.locals∧(∀ x c,X.env.cells.lookup x = some c→c≠b)∧∀ p∈X.pn++pins,p.1≠b):Inv X pins σ H' s':=by
  obtain ⟨h',g',d',t',o'⟩:=s'
  have e:o' = s.os:=ho
  subst e
  exact I.call (g':=g') (t':=t') (d':=d') u hok hg hch
end

abbrev XK:=Value→Option Addr→Hp→Prop
abbrev St:=List (Option V)
abbrev VK:=V→Hp→Prop
abbrev TE:=St→Hp→VK→Prop
abbrev TT:=St→Hp→(Bool→Hp→Prop)→Prop
abbrev TA:=St→Hp→(List V→Hp→Prop)→Prop
structure Ends where
  nx:St→Hp→Prop
  rt:VK
  bk:St→Hp→Prop:=fun _ _=>False
  ct:St→Hp→Prop:=fun _ _=>False
abbrev TS:=Ends→St→Hp→Prop

def EP (X:Cx) (pins:List (Addr×Obj)) (σ:St) (Q:VK) (u:Value) (s':Shared):Prop:=∃ v H',Inv X pins σ H' s'∧RelV v u∧Q v H'
def TP (X:Cx) (pins:List (Addr×Obj)) (σ:St) (Q:Bool→Hp→Prop) (b:Bool) (s':Shared):Prop:=∃ H',Inv X pins σ H' s'∧Q b H'
def AP (X:Cx) (pins:List (Addr×Obj)) (σ:St) (Q:List V→Hp→Prop) (us:List Value) (s':Shared):Prop:=∃ vs H',Inv X pins σ H' s'∧Vals vs us∧Q vs H'
def SP (X:Cx) (pins:List (Addr×Obj)) (D:Ends) (f:Flow) (s':Shared):Prop :=
  match f with
  | .next=>∃ σ' H',Inv X pins σ' H' s'∧D.nx σ' H'
  | .brk=>∃ σ' H',Inv X pins σ' H' s'∧D.bk σ' H'
  | .cont=>∃ σ' H',Inv X pins σ' H' s'∧D.ct σ' H'
  | .ret u=>∃ v σ' H',Inv X pins σ' H' s'∧RelV v u∧D.rt v H'

def PE (X:Cx) (e:Expr) (t:TE):Prop :=
  ∀ (pins:List (Addr×Obj)) (s:Shared) (σ:St) (H:Hp) (Q:VK),Inv X pins σ H s→t σ H Q→wpAny (model X.prog X.w) X.A (eval e X.env) (EP X pins σ Q) X.xe s
def PT (X:Cx) (e:Expr) (t:TT):Prop :=
  ∀ (pins:List (Addr×Obj)) (s:Shared) (σ:St) (H:Hp) (Q:Bool→Hp→Prop),Inv X pins σ H s→t σ H Q→wpAny (model X.prog X.w) X.A (isTrue e X.env (eval e X.env)) (TP X pins σ Q) X.xe s
def PW (X:Cx) (e:Expr) (t:TT):Prop :=
  ∀ (whole:Sem Value) (pins:List (Addr×Obj)) (s:Shared) (σ:St) (H:Hp) (Q:Bool→Hp→Prop),Inv X pins σ H s→t σ H Q→wpAny (model X.prog X.w) X.A (isTrue e X.env whole) (TP X pins σ Q) X.xe s
theorem PW.pt {X:Cx} {e:Expr} {t:TT} (h:PW X e t):PT X e t:=h _
def PA (X:Cx) (es:List Expr) (t:TA):Prop :=
  ∀ (pos:Pos) (pins:List (Addr×Obj)) (s:Shared) (σ:St) (H:Hp) (Q:List V→Hp→Prop),Inv X pins σ H s→t σ H Q→wpAny (model X.prog X.w) X.A (spliced (backTo pos (starEach es X.env))) (AP X pins σ Q) X.xe s
def PS (X:Cx) (st:Stmt) (t:TS):Prop :=
  ∀ (pins:List (Addr×Obj)) (s:Shared) (σ:St) (H:Hp) (D:Ends),Inv X pins σ H s→t D σ H→wpAny (model X.prog X.w) X.A (exec st X.env) (SP X pins D) X.xe s
def PSs (X:Cx) (st:List Stmt) (t:TS):Prop :=
  ∀ (pins:List (Addr×Obj)) (s:Shared) (σ:St) (H:Hp) (D:Ends),Inv X pins σ H s→t D σ H→wpAny (model X.prog X.w) X.A (execs st X.env) (SP X pins D) X.xe s
theorem thn {α:Type} {t:Sem α} {Q Q':α→Shared→Prop} {M:Model} {A:Around} {E:Value→Shared→Prop} {s:Shared} (h:wpAny M A t Q E s) (hQ:∀ a s,Q a s→Q' a s):wpAny M A t Q' E s:=wpAny_mono h hQ fun _ _ x=>x
end L2

namespace L2
open PySem PySem.Spec PyProof.Rows
section
variable {X:Cx}

theorem bin {a b:Expr} {ta tb:TE} (ha:PE X a ta) (hb:PE X b tb) {pins:List (Addr×Obj)} {s:Shared} {σ:St} {H:Hp} {R:V→V→Hp→Prop} (I:Inv X pins σ H s) (h:ta σ H fun x H1=>tb σ H1 fun y H2=>R x y H2)
    {α:Type} {Q:α→Shared→Prop} {f:Value→Value→Sem α}
    (hf:∀ v u s2 x y H2,Inv X pins σ H2 s2→RelV x v→RelV y u→R x y H2→wpAny (model X.prog X.w) X.A (f v u) Q X.xe s2) :
    wpAny (model X.prog X.w) X.A (eval a X.env) (fun v s₁=>wpAny (model X.prog X.w) X.A (eval b X.env) (fun u s₂=>wpAny (model X.prog X.w) X.A (f v u) Q X.xe s₂) X.xe s₁) X.xe s:=by
  refine thn (ha pins s σ H _ I h) fun v s1 ⟨x,H1,I1,r1,q1⟩=>?_
  refine thn (hb pins s1 σ H1 _ I1 q1) fun u s2 ⟨y,H2,I2,r2,q2⟩=>?_
  exact hf v u s2 x y H2 I2 r1 r2 q2

def tVar (i:Nat):TE:=fun σ H Q=>∃ v,σ[i]? = some (some v)∧Q v H
def tC (v:V):TE:=fun _ H Q=>Q v H
theorem pe_var {i:Nat} {x:Str} {pos:Pos} (hN:X.N[i]? = some x) (hv:Vis X.env.scope x) (hd:(x == ("__debug__":Str)) = false:=by decide) (hcd:(x == ("__classdict__":Str)) = false:=by decide):PE X (.Name x pos) (tVar i):=by
  intro pins s σ H Q I h
  obtain ⟨v,e,h⟩:=h
  obtain ⟨m,hn,hl⟩:=I.loc
  obtain ⟨u,r,l⟩:=hl i x v hN e hv
  have fin:EP X pins σ Q u s:=⟨v,H,I,r,h⟩
  rcases l with ⟨hk,hm⟩ | ⟨hk,c,hc,hcell⟩
  · exact wpAny_Name (wpAny_loadName_local I.ok.kind hk hn hm fin) hd
  · rcases hk with hk | hk
    · exact wpAny_Name (wpAny_loadName_cell I.ok.kind hk hc hcell fin) hd
    · exact wpAny_Name (wpAny_loadName_free I.ok.kind hk hc hcell fin hcd) hd
theorem pe_int {i j pos}:PE X (.Constant (.int i) j pos) (tC (.int i)):=fun _ _ _ H _ I h=>wpAny_Constant_int ⟨.int i,H,I.tok _,⟨_,rfl⟩,h⟩
theorem pe_bl {b j pos}:PE X (.Constant (.bool b) j pos) (tC (.bl b)):=fun _ _ _ H _ I h=>Constant_bool ⟨.bl b,H,I,rfl,h⟩
theorem pe_non {j pos}:PE X (.Constant .none j pos) (tC .non):=fun _ _ _ H _ I h=>Constant_none ⟨.non,H,I,rfl,h⟩
theorem pe_str {x j pos}:PE X (.Constant (.str x) j pos) (tC (.str x)):=fun _ _ _ H _ I h=>Calls.Constant_str ⟨.str x,H,I.tok _,⟨_,rfl⟩,h⟩

def Gl (X:Cx) (x:Str):Prop:=X.env.kindOf x = some .globalImplicit
theorem ld_glob {E:Value→Shared→Prop} {pins:List (Addr×Obj)} {s:Shared} {σ:St} {H:Hp} {x:Str} {u:Value} {pos:Pos} {Q:Value→Shared→Prop} (I:Inv X pins σ H s) (hg:Gl X x) (hm:X.mg x = some u) (h:Q u s)
    (hd:(x == ("__debug__":Str)) = false:=by decide):wpAny (model X.prog X.w) X.A (eval (.Name x pos) X.env) Q E s :=
  Calls.Name_function_global I.ok.kind hg (Calls.loadGlobal_global (by rw [I.ok.glob]; exact I.mod.glob.keeps I.bk) hm h) hd
theorem ld_blt {E:Value→Shared→Prop} {pins:List (Addr×Obj)} {s:Shared} {σ:St} {H:Hp} {x:Str} {u:Value} {pos:Pos} {Q:Value→Shared→Prop} (I:Inv X pins σ H s) (hg:Gl X x) (hm:X.mg x = none) (hv:bootBuiltins x = some u) (h:Q u s)
    (hn:x≠"__name__":=by decide) (hd:(x == ("__debug__":Str)) = false:=by decide):wpAny (model X.prog X.w) X.A (eval (.Name x pos) X.env) Q E s:=by
  obtain ⟨mb,h1,h2⟩:=I.mod.blt
  exact Calls.Name_function_global I.ok.kind hg (Calls.loadGlobal_builtin (by rw [I.ok.glob]; exact I.mod.glob.keeps I.bk) hm (by rw [I.ok.blt]; exact h1.keeps I.bk) ((h2 x hn).trans hv) h) hd
theorem pe_glob {x:Str} {v:V} {u:Value} {pos:Pos} (hg:Gl X x) (hm:X.mg x = some u) (r:RelV v u) (hd:(x == ("__debug__":Str)) = false:=by decide):PE X (.Name x pos) (tC v) :=
  fun _ _ _ H _ I h=>ld_glob I hg hm ⟨v,H,I,r,h⟩ hd
theorem pe_bltn {x:Str} {v:V} {u:Value} {pos:Pos} (hg:Gl X x) (hm:X.mg x = none) (hv:bootBuiltins x = some u) (r:RelV v u) (hn:x≠"__name__":=by decide) (hd:(x == ("__debug__":Str)) = false:=by decide):PE X (.Name x pos) (tC v) :=
  fun _ _ _ H _ I h=>ld_blt I hg hm hv ⟨v,H,I,r,h⟩ hn hd

variable {a b:Expr} {ta tb:TE} {pos:Pos}
def PC (X:Cx) (op:CmpOp) (a b:Expr) (t:TE):Prop :=
  ∀ (pins:List (Addr×Obj)) (s:Shared) (σ:St) (H:Hp) (Q:VK),Inv X pins σ H s→t σ H Q →
    wpAny (model X.prog X.w) X.A (eval a X.env) (fun v s₁=>wpAny (model X.prog X.w) X.A (eval b X.env) (fun u s₂=>wpAny (model X.prog X.w) X.A (compareOp op v u) (EP X pins σ Q) X.xe s₂) X.xe s₁) X.xe s
theorem nobehind (b:Expr) {op:CmpOp} (h:op≠.In) (h2:op≠.NotIn):behindInMarks op b = false:=by
  have e1:(op == CmpOp.In) = false:=by cases op<;>first | rfl | exact absurd rfl h
  have e2:(op == CmpOp.NotIn) = false:=by cases op<;>first | rfl | exact absurd rfl h2
  cases b<;>simp [behindInMarks,e1,e2]
def tB (t:TE):TT:=fun σ H Q=>t σ H fun x H1=>∃ c,x = .bl c∧Q c H1
theorem pt_cmp {op:CmpOp} {t:TE} (h:PC X op a b t) (h1:behindInMarks op b = false:=by first | exact nobehind _ (by decide) (by decide) | rfl):PT X (.Compare a [op] [b] pos) (tB t):=by
  intro pins s σ H Q I hw
  refine wpAny_isTrue_Compare1 (thn (h pins s σ H _ I hw) fun v s1 h1=>thn h1 fun u s2 h2=>thn h2 fun c s3 ⟨x,H1,I1,r1,q1⟩=>?_) h1
  obtain ⟨d,rfl,q⟩:=q1
  cases r1
  exact wpAny_truthy_bool ⟨H1,I1,q⟩
theorem pt_val {e:Expr} {t:TE} (h:PE X e t) (he:∀ whole,isTrue e X.env whole = (do let v ← whole; standAt e.pos; holding [v] (truthy v)):=by intro _; rfl):PT X e (tB t):=by
  intro pins s σ H Q I hw
  refine isTrue_plain (thn (h pins s σ H _ I hw) fun v s1 ⟨x,H1,I1,r1,q1⟩=>?_) (he _)
  obtain ⟨d,rfl,q⟩:=q1
  cases r1
  exact wpAny_truthy_bool ⟨H1,I1,q⟩

variable {tA tB':TT} {rest:List Expr}
def tAnd (t u:TT):TT:=fun σ H Q=>t σ H fun c H1=>if c = true then u σ H1 Q else Q false H1
def tOr (t u:TT):TT:=fun σ H Q=>t σ H fun c H1=>if c = true then Q true H1 else u σ H1 Q
def tNot (t:TT):TT:=fun σ H Q=>t σ H fun c H1=>Q (!c) H1
theorem pw_and1 (ha:PT X a tA):PW X (.BoolOp .And [a] pos) tA:=by
  intro wh pins s σ H Q I h
  refine isTrue_and (thn (ha pins s σ H Q I h) fun c s1 e=>?_)
  cases c with
  | true=>exact isTrue_and_nil e
  | false=>exact e
theorem pw_or1 (ha:PT X a tA):PW X (.BoolOp .Or [a] pos) tA:=by
  intro wh pins s σ H Q I h
  refine isTrue_or (thn (ha pins s σ H Q I h) fun c s1 e=>?_)
  cases c with
  | false=>exact isTrue_or_nil e
  | true=>exact e
theorem pw_and (ha:PT X a tA) (hb:PW X (.BoolOp .And (b::rest) pos) tB'):PW X (.BoolOp .And (a::b::rest) pos) (tAnd tA tB'):=by
  intro wh pins s σ H Q I h
  refine isTrue_and (thn (ha pins s σ H _ I h) fun c s1 ⟨H1,I1,q1⟩=>?_)
  cases c with
  | true=>exact hb wh pins s1 σ H1 Q I1 q1
  | false=>exact ⟨H1,I1,q1⟩
theorem pw_or (ha:PT X a tA) (hb:PW X (.BoolOp .Or (b::rest) pos) tB'):PW X (.BoolOp .Or (a::b::rest) pos) (tOr tA tB'):=by
  intro wh pins s σ H Q I h
  refine isTrue_or (thn (ha pins s σ H _ I h) fun c s1 ⟨H1,I1,q1⟩=>?_)
  cases c with
  | true=>exact ⟨H1,I1,q1⟩
  | false=>exact hb wh pins s1 σ H1 Q I1 q1
theorem pt_not (ha:PT X a tA):PT X (.UnaryOp .Not a pos) (tNot tA):=by
  intro pins s σ H Q I h
  exact isTrue_not (ha pins s σ H (fun c H1=>Q (!c) H1) I h)
def tAndV (ta tb:TE):TE:=fun σ H Q=>ta σ H fun x H1=>∃ c,x = .bl c∧if c = true then tb σ H1 Q else Q (.bl false) H1
def tOrV (ta tb:TE):TE:=fun σ H Q=>ta σ H fun x H1=>∃ c,x = .bl c∧if c = true then Q (.bl true) H1 else tb σ H1 Q
theorem pe_one {op} {t:TE} (h:PE X a t):PE X (.BoolOp op [a] pos) t:=fun pins s σ H Q I hw=>BoolOp_one (h pins s σ H Q I hw)
theorem pe_and (ha:PE X a ta) (hb:PE X (.BoolOp .And (b::rest) pos) tb):PE X (.BoolOp .And (a::b::rest) pos) (tAndV ta tb):=by
  intro pins s σ H Q I h
  refine BoolOp_and (thn (ha pins s σ H _ I h) fun v s1 ⟨x,H1,I1,r1,q1⟩=>?_)
  obtain ⟨c,rfl,q1⟩:=q1
  cases r1
  refine wpAny_truthy_bool ?_
  cases c with
  | true=>exact hb pins s1 σ H1 Q I1 q1
  | false=>exact ⟨.bl false,H1,I1,rfl,q1⟩
theorem pe_or (ha:PE X a ta) (hb:PE X (.BoolOp .Or (b::rest) pos) tb):PE X (.BoolOp .Or (a::b::rest) pos) (tOrV ta tb):=by
  intro pins s σ H Q I h
  refine BoolOp_or (thn (ha pins s σ H _ I h) fun v s1 ⟨x,H1,I1,r1,q1⟩=>?_)
  obtain ⟨c,rfl,q1⟩:=q1
  cases r1
  refine wpAny_truthy_bool ?_
  cases c with
  | false=>exact hb pins s1 σ H1 Q I1 q1
  | true=>exact ⟨.bl true,H1,I1,rfl,q1⟩
def tIf (t:TT) (ta tb:TE):TE:=fun σ H Q=>t σ H fun c H1=>if c = true then ta σ H1 Q else tb σ H1 Q
theorem pe_ifExp {c:Expr} (hc:PT X c tA) (ha:PE X a ta) (hb:PE X b tb):PE X (.IfExp c a b pos) (tIf tA ta tb):=by
  intro pins s σ H Q I h
  refine wpAny_IfExp (thn (hc pins s σ H _ I h) fun d s1 ⟨H1,I1,q1⟩=>?_)
  cases d with
  | true=>exact ha pins s1 σ H1 Q I1 q1
  | false=>exact hb pins s1 σ H1 Q I1 q1
end
end L2

namespace L2
open PySem PySem.Spec PyProof.Rows

def SqL (K:PySem.W.Frag) (H:Hp) (a:Addr) (xs:List V):Prop :=
  Rd H a (.lst xs) ∨
    ∃ (o:Obj) (its:Array Value) (n:Nat),K.lookup a = some o∧o.cls = .type "list"∧o.dict = none∧o.data = .seq its n∧its.size≤sizeLine∧Vals xs its.toList
def SqT (K:PySem.W.Frag) (H:Hp) (a:Addr) (xs:List V):Prop :=
  Rd H a (.tup xs) ∨
    ∃ (o:Obj) (its:Array Value) (n:Nat),K.lookup a = some o∧o.cls = .type "tuple"∧o.data = .seq its n∧its.size≤sizeLine∧Vals xs its.toList
def absV:Value→Option V
  | .none=>some .non
  | .bool b=>some (.bl b)
  | .int i _=>some (.int i)
  | .str x _=>some (.str x)
  | .bytes b _=>some (.byt b)
  | .float b _=>some (.flt b)
  | .ref a=>some (.ref a)
  | .type n=>some (.ty n)
  | _=>none
theorem RelV.abs {x:V} {u:Value} (r:RelV x u):absV u = some x:=by
  cases x with
  | non=>cases r; rfl
  | bl _=>cases r; rfl
  | int _=>obtain ⟨t,rfl⟩:=r; rfl
  | str _=>obtain ⟨t,rfl⟩:=r; rfl
  | byt _=>obtain ⟨t,rfl⟩:=r; rfl
  | flt _=>obtain ⟨t,rfl⟩:=r; rfl
  | ref _=>cases r; rfl
  | ty _=>cases r; rfl
theorem RelV.inj {x y:V} {u:Value} (r:RelV x u) (q:RelV y u):x = y:=Option.some.inj (r.abs.symm.trans q.abs)
theorem Vals.inj:∀ {xs ys:List V} {us:List Value},Vals xs us→Vals ys us→xs = ys
  | _,_,_,.nil,.nil=>rfl
  | _,_,_,.cons r t,.cons r' t'=>by rw [r.inj r',Vals.inj t t']
section
variable {X:Cx} {pins:List (Addr×Obj)} {σ:St} {H:Hp} {s:Shared} {a:Addr} {xs ys:List V}
theorem SqL.of {K:PySem.W.Frag} (h:H a = some (.lst xs)):SqL K H a xs:=.inl (.inl h)
theorem SqT.of {K:PySem.W.Frag} (h:H a = some (.tup xs)):SqT K H a xs:=.inl (.inl h)
theorem Inv.list (I:Inv X pins σ H s) (h:SqL X.K H a xs):∃ its:List Value,Vals xs its∧PlainL s.heap a its.toArray∧xs.length≤sizeLine:=by
  rcases h with h | ⟨o,its,n,hk,hc,hd,hs,hz,r⟩
  · obtain ⟨z,its,n,r,e⟩:=h.ok I.hok
    exact ⟨its,r,⟨_,n,e,rfl,rfl,rfl⟩,z⟩
  · refine ⟨its.toList,r,⟨o,n,I.kIn a o hk,hc,hd,by simpa using hs⟩,?_⟩
    have e:=r.length
    simp only [Array.length_toList] at e
    omega
theorem Inv.tuple (I:Inv X pins σ H s) (h:SqT X.K H a xs):∃ its:List Value,Vals xs its∧IsTup s.heap a its.toArray∧xs.length≤sizeLine:=by
  rcases h with h | ⟨o,its,n,hk,hc,hs,hz,r⟩
  · obtain ⟨z,its,r,p⟩:=h.ok I.hok
    exact ⟨its,r,p,z⟩
  · refine ⟨its.toList,r,⟨o,I.kIn a o hk,hc,n,by simpa using hs⟩,?_⟩
    have e:=r.length
    simp only [Array.length_toList] at e
    omega
theorem Inv.list_inj (I:Inv X pins σ H s) (h:SqL X.K H a xs) (h':SqL X.K H a ys):xs = ys:=by
  obtain ⟨its,r,⟨o,n,e,_,_,d⟩,_⟩:=I.list h
  obtain ⟨its',r',⟨o',n',e',_,_,d'⟩,_⟩:=I.list h'
  rw [e] at e'; cases e'
  rw [d] at d'
  injection d' with d1 _
  have:its = its':=by simpa using congrArg Array.toList d1
  subst this
  exact r.inj r'
theorem Inv.tuple_inj (I:Inv X pins σ H s) (h:SqT X.K H a xs) (h':SqT X.K H a ys):xs = ys:=by
  obtain ⟨its,r,⟨o,e,_,n,d⟩,_⟩:=I.tuple h
  obtain ⟨its',r',⟨o',e',_,n',d'⟩,_⟩:=I.tuple h'
  rw [e] at e'; cases e'
  rw [d] at d'
  injection d' with d1 _
  have:its = its':=by simpa using congrArg Array.toList d1
  subst this
  exact r.inj r'
end

abbrev Cx.wish (X:Cx) (E:Value→Shared→Prop):Cx:={ X with xe:=E }
abbrev Cx.nox (X:Cx):Cx:=X.wish fun _ _=>False
theorem Cx.Ok.wish {X:Cx} (ok:X.Ok) (E:Value→Shared→Prop):(X.wish E).Ok :=
  ⟨ok.mod,ok.kind,ok.glob,ok.blt,ok.above,ok.inj,ok.has,ok.cab,ok.hd,ok.frames,ok.stk,ok.exf,ok.bs,ok.bsz,ok.noex,ok.exfs,ok.funs,ok.frf⟩
theorem Cx.Ok.unwish {X:Cx} {E:Value→Shared→Prop} (ok:(X.wish E).Ok):X.Ok :=
  ⟨ok.mod,ok.kind,ok.glob,ok.blt,ok.above,ok.inj,ok.has,ok.cab,ok.hd,ok.frames,ok.stk,ok.exf,ok.bs,ok.bsz,ok.noex,ok.exfs,ok.funs,ok.frf⟩
section
variable {X:Cx} {pins:List (Addr×Obj)} {σ:St} {H:Hp} {s:Shared} {E:Value→Shared→Prop}
theorem Inv.wish (I:Inv X pins σ H s) (E:Value→Shared→Prop):Inv (X.wish E) pins σ H s:=⟨I.ok.wish E,I.os,I.bare,I.base,I.loc,I.cell,I.free,I.freeC,I.pin,I.hok,I.len⟩
theorem Inv.unwish (I:Inv (X.wish E) pins σ H s):Inv X pins σ H s:=⟨I.ok.unwish,I.os,I.bare,I.base,I.loc,I.cell,I.free,I.freeC,I.pin,I.hok,I.len⟩
theorem SP.unwish {D:Ends} {f:Flow} {s':Shared} (h:SP (X.wish E) pins D f s'):SP X pins D f s':=by
  cases f with
  | next=>obtain ⟨σ',H',I,q⟩:=h; exact ⟨σ',H',I.unwish,q⟩
  | brk=>obtain ⟨σ',H',I,q⟩:=h; exact ⟨σ',H',I.unwish,q⟩
  | cont=>obtain ⟨σ',H',I,q⟩:=h; exact ⟨σ',H',I.unwish,q⟩
  | ret u=>obtain ⟨v,σ',H',I,r,q⟩:=h; exact ⟨v,σ',H',I.unwish,r,q⟩
theorem PE.nox {e:Expr} {t:TE} (h:PE X.nox e t):PE X e t:=fun pins s σ H Q I hw =>
  wpAny_mono (h pins s σ H Q (I.wish _) hw) (fun _ _ ⟨v,H',I',r,q⟩=>⟨v,H',I'.unwish,r,q⟩) fun _ _ z=>False.elim z
theorem PT.nox {e:Expr} {t:TT} (h:PT X.nox e t):PT X e t:=fun pins s σ H Q I hw =>
  wpAny_mono (h pins s σ H Q (I.wish _) hw) (fun _ _ ⟨H',I',q⟩=>⟨H',I'.unwish,q⟩) fun _ _ z=>False.elim z
theorem PSs.nox {st:List Stmt} {t:TS} (h:PSs X.nox st t):PSs X st t:=fun pins s σ H D I hw =>
  wpAny_mono (h pins s σ H D (I.wish _) hw) (fun _ _ q=>q.unwish) fun _ _ z=>False.elim z
end

section
variable {X:Cx} {st:Stmt} {rest:List Stmt} {t u:TS} {e:Expr} {te:TE} {pos:Pos}
def tNext:TS:=fun D σ H=>D.nx σ H
def tSeq (t u:TS):TS:=fun D σ H=>t { D with nx:=u D } σ H
theorem pss_nil:PSs X [] tNext:=fun _ _ σ H _ I h=>wpAny_execs_nil ⟨σ,H,I,h⟩
theorem pss_cons (h1:PS X st t) (h2:PSs X rest u):PSs X (st::rest) (tSeq t u):=by
  intro pins s σ H D I h
  refine wpAny_execs_cons (thn (h1 pins s σ H { D with nx:=u D } I h) fun f s1 q=>?_)
  cases f with
  | next =>
    obtain ⟨σ',H',I',q⟩:=q
    exact h2 pins s1 σ' H' D I' q
  | ret v=>exact q
  | brk=>exact q
  | cont=>exact q
theorem pss_one (h1:PS X st t):PSs X [st] t:=by
  intro pins s σ H D I h
  refine wpAny_execs_cons (thn (h1 pins s σ H D I h) fun f s1 q=>?_)
  cases f with
  | next=>exact wpAny_execs_nil q
  | ret v=>exact q
  | brk=>exact q
  | cont=>exact q
theorem Inv.quiet {pins:List (Addr×Obj)} {σ:St} {H:Hp} {s:Shared} (I:Inv X pins σ H s):interactive X.env = false:=by simp [interactive,I.ok.kind]
def tDrop (te:TE):TS:=fun D σ H=>te σ H fun _ H1=>D.nx σ H1
theorem ps_expr (he:PE X e te) (hs:swapsWith e none pos.line X.env = pure false:=by rfl):PS X (.Expr e pos) (tDrop te):=by
  intro pins s σ H D I h
  exact wpAny_Expr_any (thn (he pins s σ H _ I h) fun v s1 ⟨x,H1,I1,r1,q1⟩=>⟨σ,H1,I1,q1⟩) I.quiet hs
def tRet (te:TE):TS:=fun D σ H=>te σ H D.rt
theorem ps_ret (he:PE X e te):PS X (.Return (some e) pos) (tRet te):=by
  intro pins s σ H D I h
  exact wpAny_Return_some (thn (he pins s σ H _ I h) fun v s1 ⟨x,H1,I1,r1,q1⟩=>⟨x,σ,H1,I1,r1,q1⟩)
def tIfS (c:TT) (t u:TS):TS:=fun D σ H=>c σ H fun b H1=>if b = true then t D σ H1 else u D σ H1
theorem ps_if {c:Expr} {a b:List Stmt} {tc:TT} (hc:PT X c tc) (ha:PSs X a t) (hb:PSs X b u):PS X (.If c a b pos) (tIfS tc t u):=by
  intro pins s σ H D I h
  refine wpAny_If (thn (hc pins s σ H _ I h) fun d s1 ⟨H1,I1,q1⟩=>?_)
  cases d with
  | true=>exact ha pins s1 σ H1 D I1 q1
  | false=>exact hb pins s1 σ H1 D I1 q1
end

abbrev TG:=V→St→Hp→(St→Hp→Prop)→Prop
abbrev TGs:=List V→St→Hp→(St→Hp→Prop)→Prop
def PG (X:Cx) (target:Expr) (t:TG):Prop :=
  ∀ (pins:List (Addr×Obj)) (s:Shared) (σ:St) (H:Hp) (v:V) (u:Value) (Q:St→Hp→Prop),Inv X pins σ H s→RelV v u→t v σ H Q →
    wpAny (model X.prog X.w) X.A (assign target X.env u) (fun _ s'=>∃ σ' H',Inv X pins σ' H' s'∧Q σ' H') X.xe s
def PGs (X:Cx) (ts:List Expr) (t:TGs):Prop :=
  ∀ (pins:List (Addr×Obj)) (s:Shared) (σ:St) (H:Hp) (vs:List V) (us:List Value) (Q:St→Hp→Prop),Inv X pins σ H s→Vals vs us→t vs σ H Q →
    wpAny (model X.prog X.w) X.A (assignInOrder ((assignEach ts X.env).map (·.2)) us) (fun _ s'=>∃ σ' H',Inv X pins σ' H' s'∧Q σ' H') X.xe s
abbrev TSet:=V→V→V→Hp→(Hp→Prop)→Prop
def PSet (X:Cx) (t:TSet):Prop :=
  ∀ (pins:List (Addr×Obj)) (s:Shared) (σ:St) (H:Hp) (o i v:V) (ov iv u:Value) (Q:Hp→Prop),Inv X pins σ H s→RelV o ov→RelV i iv→RelV v u→t o i v H Q →
    wpAny (model X.prog X.w) X.A (setItem ov iv u) (fun _ s'=>∃ H',Inv X pins σ H' s'∧Q H') X.xe s
section
variable {X:Cx} {pos:Pos}
def gName (i:Nat):TG:=fun v σ H Q=>Q (σ.set i (some v)) H
theorem pg_name {i:Nat} {x:Str} (hN:X.N.Nodup) (hi:X.N[i]? = some x) (hx:Loc X.env.scope x) (hf:X.fn x = true∨X.env.scope.names.lookup x = some .local:=by first | exact .inl rfl | exact .inr rfl | assumption):PG X (.Name x pos) (gName i):=by
  intro pins s σ H v u Q I r h
  exact wpAny_assign_Name (store_ok I hN hi hx r (fun s' I'=>⟨_,H,I',h⟩) hf)
def gNil:TGs:=fun vs σ H Q=>vs = []∧Q σ H
def gCons (t:TG) (u:TGs):TGs:=fun vs σ H Q=>∃ v r,vs = v::r∧t v σ H fun σ' H'=>u r σ' H' Q
theorem pgs_nil:PGs X [] gNil:=by
  intro pins s σ H vs us Q I r h
  obtain ⟨e,h⟩:=h
  subst e
  cases r
  exact assignInOrder_nil ⟨σ,H,I,h⟩
theorem pgs_cons {e:Expr} {es:List Expr} {t:TG} {u:TGs} (h1:PG X e t) (h2:PGs X es u)
    (hs:(assignEach (e::es) X.env).map (·.2) = assign e X.env::(assignEach es X.env).map (·.2):=by rfl):PGs X (e::es) (gCons t u):=by
  intro pins s σ H vs us Q I r h
  obtain ⟨v,vr,e1,h⟩:=h
  subst e1
  cases r with
  | cons r rr =>
    rw [hs]
    refine assignInOrder_cons (thn (h1 pins s σ H _ _ _ I r h) fun _ s1 ⟨σ1,H1,I1,q1⟩=>?_)
    exact h2 pins s1 σ1 H1 _ _ Q I1 rr q1
def gTup (K:PySem.W.Frag) (n:Nat) (t:TGs):TG:=fun v σ H Q=>∃ a xs,v = .ref a∧SqT K H a xs∧xs.length = n∧t xs σ H Q
theorem pg_tup {es:List Expr} {k:Nat} {t:TGs} {n:Nat} (hc:X.calm = true) (h:PGs X es t)
    (hn:(assignEach es X.env).length = n:=by rfl) (hst:(assignEach es X.env).findIdx? (·.1) = none:=by rfl):PG X (.Tuple es k pos) (gTup X.K n t):=by
  intro pins s σ H v u Q I r hw
  obtain ⟨a,xs,e1,hq,hl,hw⟩:=hw
  subst e1
  cases r
  obtain ⟨its,rv,ht,hz⟩:=I.tuple hq
  refine assign_Tuple_tuple (I.ok.hd hc) ht (by simp [hn,← hl,rv.length]) hst fun h' hx=>?_
  have I1:Inv X pins σ H { s with heap:=h' }:=I.kept (t':=s.toks) fun b o e=>hx b o (Nat.ne_of_lt (Heap.lt_size e)) e
  exact h pins _ σ H xs _ Q I1 (by simpa using rv) hw
def gSub (to ti:TE) (t:TSet):TG:=fun v σ H Q=>to σ H fun o H1=>ti σ H1 fun i H2=>t o i v H2 fun H3=>Q σ H3
theorem pg_sub {o i:Expr} {to ti:TE} {t:TSet} (ho:PE X o to) (hi:PE X i ti) (hs:PSet X t)
    (ha:∀ v,assign (.Subscript o i pos) X.env v = (do
      let ov ← holding [v] (eval o X.env)
      let iv ← holding [v,ov] (eval i X.env)
      standAt pos
      holding [v,ov,iv] (setItem ov iv v)
      release [v,ov,iv] []):=by intro _; rfl):PG X (.Subscript o i pos) (gSub to ti t):=by
  intro pins s σ H v u Q I r h
  rw [ha]
  refine wpAny_bind (wpAny_holding (thn (ho pins s σ H _ I h) fun ov s1 ⟨x,H1,I1,r1,q1⟩=>?_))
  refine wpAny_bind (wpAny_holding (thn (hi pins s1 σ H1 _ I1 q1) fun iv s2 ⟨y,H2,I2,r2,q2⟩=>?_))
  refine wpAny_bind (wpAny_standAt (wpAny_bind (wpAny_holding (thn (hs pins s2 σ H2 x y v ov iv u _ I2 r1 r2 r q2) fun _ s3 ⟨H3,I3,q3⟩=>?_))))
  exact wpAny_release ⟨σ,H3,I3,q3⟩
def tAsg (te:TE) (g:TG):TS:=fun D σ H=>te σ H fun x H1=>g x σ H1 D.nx
theorem ps_asg {tg e:Expr} {te:TE} {g:TG} (he:PE X e te) (hg:PG X tg g) (hs:swapsWithSole [tg] e pos.line X.env = pure false:=by rfl) (hw:swappedStores [tg] e X.env = pure none:=by rfl)
    (h1:(assignEach [tg] X.env).map (·.2) = [assign tg X.env]:=by rfl):PS X (.Assign [tg] e pos) (tAsg te g):=by
  intro pins s σ H D I h
  refine wpAny_Assign_stores (thn (he pins s σ H _ I h) fun v s1 ⟨x,H1,I1,r1,q1⟩=>?_) hs hw
  rw [h1]
  exact thn (hg pins s1 σ H1 x v _ I1 r1 q1) fun _ s2 q=>q
theorem ps_set {i:Nat} {x:Str} {e:Expr} {te:TE} {pos':Pos} (hN:X.N.Nodup) (hi:X.N[i]? = some x) (hx:Loc X.env.scope x) (he:PE X e te) (hs:swapsWith e (some (.Name x pos')) pos.line X.env = pure false:=by rfl) (hf:X.fn x = true∨X.env.scope.names.lookup x = some .local:=by first | exact .inl rfl | exact .inr rfl | assumption) :
    PS X (.Assign [.Name x pos'] e pos) (tAsg te (gName i)):=by
  intro pins s σ H D I h
  refine wpAny_Assign_Name (thn (he pins s σ H _ I h) fun v s1 ⟨y,H1,I1,r1,q1⟩=>?_) hs
  exact store_ok I1 hN hi hx r1 (fun s2 I2=>⟨_,H1,I2,q1⟩) hf
end

section
variable {X:Cx} {pos:Pos}
def tWhile (c:TT) (tb:TS):TS:=fun D σ H=>∃ W:Nat→St→Hp→Prop,(∃ m,W m σ H)∧∀ m σ H,W m σ H →
  c σ H fun b H1=>if b = true then ∃ N:St→Hp→Prop,(∀ σ' H',N σ' H'→∃ m',m' < m∧W m' σ' H')∧tb { D with nx:=N,ct:=N,bk:=D.nx } σ H1 else D.nx σ H1
theorem ps_while {c:Expr} {body:List Stmt} {tc:TT} {tb:TS} (hp:PassesOwn (model X.prog X.w) X.A X.env X.xe) (hc:PT X c tc) (hb:PSs X body tb):PS X (.While c body [] pos) (tWhile tc tb):=by
  intro pins s σ H D I h
  obtain ⟨W,⟨m0,w0⟩,turn⟩:=h
  refine wpAny_While (codeAny_whileLoop (fun n s'=>∃ σ' H',Inv X pins σ' H' s'∧W n σ' H') ?_ m0 ⟨σ,H,I,w0⟩)
  rintro n s1 ⟨σ1,H1,I1,w1⟩
  refine wpAny_passesOwn hp (thn (hc pins s1 σ1 H1 _ I1 (turn n σ1 H1 w1)) fun b s2 ⟨H2,I2,q2⟩=>?_)
  cases b with
  | true =>
    obtain ⟨N,hN,q2⟩:=q2
    rw [if_pos rfl]
    refine wpAny_passesOwn hp (thn (hb pins s2 σ1 H2 _ I2 q2) fun f s3 q3=>?_)
    cases f with
    | next =>
      obtain ⟨σ3,H3,I3,n3⟩:=q3
      obtain ⟨m',hm,w3⟩:=hN σ3 H3 n3
      exact ⟨m',hm,σ3,H3,I3,w3⟩
    | cont =>
      obtain ⟨σ3,H3,I3,n3⟩:=q3
      obtain ⟨m',hm,w3⟩:=hN σ3 H3 n3
      exact ⟨m',hm,σ3,H3,I3,w3⟩
    | brk=>exact q3
    | ret v=>exact q3
  | false =>
    rw [if_neg Bool.false_ne_true]
    exact wpAny_execs_nil ⟨σ1,H2,I2,q2⟩
end

structure It where
  go:Nat→Hp→Prop
  yld:Nat→Hp→V→Hp→Prop
  stop:Nat→Hp→Prop
def FpOk (X:Cx) (pins:List (Addr×Obj)) (H:Hp) (b:Addr):Prop :=
  H b = none∧b≠X.env.locals∧b∉X.fs∧(b∈X.ex∨X.s₀.heap.objs.size≤b)∧(∀ x c,X.env.cells.lookup x = some c→c≠b)∧∀ p∈X.pn++pins,p.1≠b
theorem Inv.fpOk {X:Cx} {pins:List (Addr×Obj)} {σ:St} {H H':Hp} {s:Shared} {b:Addr} (I:Inv X pins σ H s) (hb:s.heap.objs.size≤b) (hn:H' b = none):FpOk X pins H' b:=by
  refine ⟨hn,Nat.ne_of_gt (Nat.lt_of_lt_of_le I.lt hb),I.nofs hb,.inr (Nat.le_trans I.sz hb),fun x c e z=>?_,fun p hp z=>?_⟩
  · obtain ⟨v,q⟩:=I.cell x c e
    exact absurd (Nat.lt_of_lt_of_le q.lt (by rw [z]; exact hb)) (Nat.lt_irrefl _)
  · exact absurd (Nat.lt_of_lt_of_le (Heap.lt_size (I.pin p hp).1) (by rw [z]; exact hb)) (Nat.lt_irrefl _)
structure Turn (P:Program) (w:World) (K:PySem.W.Frag) (tg:Expr) (J:It) (fp:List Addr) (it:Addr) (tn:Nat→Heap→Prop):Prop where
  mem:it∈fp
  obj:∀ i h,tn i h→∀ b∈fp,∃ o,h.get? b = some o∧∀ v,o.data≠.cell v
  keep:∀ i h h',tn i h→(∀ b∈fp,∀ o,h.get? b = some o→h'.get? b = some o)→tn i h'
  item:∀ (X:Cx),X.prog = P→X.w = w→X.K = K→X.calm = true→∀ (i:Nat) (pins:List (Addr×Obj)) (s:Shared) (σ:St) (H:Hp) (E:Value→Shared→Prop),Inv X pins σ H s→(∀ b∈fp,FpOk X pins H b)→tn i s.heap→J.go i H →
    wpAny (model P w) X.A (pyNext (.ref it)) (fun r s1=>∃ u,r = some u ∧
      wpAny (model P w) X.A (letOwnedTupleGo tg (.ref it) u) (fun _ s2=>∃ x H',Inv X pins σ H' s2∧RelV x u∧J.yld i H x H'∧tn (i+1) s2.heap∧∀ b∈fp,H' b = none) E s1) E s
  done:∀ (X:Cx),X.prog = P→X.w = w→X.K = K→X.calm = true→∀ (i:Nat) (pins:List (Addr×Obj)) (s:Shared) (σ:St) (H:Hp) (E:Value→Shared→Prop),Inv X pins σ H s→(∀ b∈fp,FpOk X pins H b)→tn i s.heap→J.stop i H →
    wpAny (model P w) X.A (pyNext (.ref it)) (fun r s1=>r = none∧Inv X pins σ H s1) E s
  self:∀ (A:Around) (i:Nat) (s:Shared) (Q:Value→Shared→Prop) (E:Value→Shared→Prop),tn i s.heap→Q (.ref it) s→wpAny (model P w) A (pyIter (.ref it)) Q E s
abbrev TI:=St→Hp→(It→Hp→Prop)→Prop
def PIE (X:Cx) (pins:List (Addr×Obj)) (σ:St) (tg:Expr) (R:It→Hp→Prop) (itv:Value) (s2:Shared):Prop :=
  ∃ (it:Addr) (fp:List Addr) (tn:Nat→Heap→Prop) (J:It) (H':Hp),itv = .ref it∧Inv X pins σ H' s2∧Turn X.prog X.w X.K tg J fp it tn∧tn 0 s2.heap∧(∀ b∈fp,FpOk X pins H' b)∧R J H'
def PI (X:Cx) (tg iter:Expr) (wi:TI):Prop :=
  ∀ (pins:List (Addr×Obj)) (s:Shared) (σ:St) (H:Hp) (R:It→Hp→Prop),Inv X pins σ H s→wi σ H R →
    wpAny (model X.prog X.w) X.A (eval iter X.env) (fun v s1=>wpAny (model X.prog X.w) X.A (pyIter v) (PIE X pins σ tg R) X.xe s1) X.xe s

theorem go_of {M:Model} {A:Around} {E:Value→Shared→Prop} {s:Shared} {tg:Expr} {it:Addr} {u:Value} {o:Obj} {n:String} {vs:Array Value} {Q:Unit→Shared→Prop} (ho:s.heap.get? it = some o) (hc:o.cls = .type n) (hd:o.data = .fields vs)
    (hn:["enumerate","zip","dict_itemiterator","dict_reverseitemiterator","odict_iterator","itertools.zip_longest","itertools.pairwise"].contains n = false) (hQ:Q () s):wpAny M A (letOwnedTupleGo tg (.ref it) u) Q E s:=by
  unfold letOwnedTupleGo
  cases tg<;>first
    | exact wpAny_pure hQ
    | (cases u<;>first
        | exact wpAny_pure hQ
        | (refine wpAny_bind (wpAny_load ho ?_)
           rw [hc,hd]
           show wpAny M A (if (["enumerate","zip","dict_itemiterator","dict_reverseitemiterator","odict_iterator","itertools.zip_longest","itertools.pairwise"].contains n && vs[0]? == some (rawInt _)) = true then _ else _) Q E s
           rw [if_neg (by intro h; rw [hn,Bool.false_and] at h; cases h)]
           exact wpAny_pure hQ))

def Itl (K:PySem.W.Frag) (a:Addr):It :=
  ⟨fun i H=>∃ xs x,SqL K H a xs∧xs[i]? = some x,fun i H x H'=>H' = H∧∀ xs,SqL K H a xs→xs[i]? = some x,fun i H=>∃ xs,SqL K H a xs∧xs.length≤i⟩
def Itt (K:PySem.W.Frag) (a:Addr):It :=
  ⟨fun i H=>∃ xs x,SqT K H a xs∧xs[i]? = some x,fun i H x H'=>H' = H∧∀ xs,SqT K H a xs→xs[i]? = some x,fun i H=>∃ xs,SqT K H a xs∧xs.length≤i⟩
def Itr (lo:Int) (n:Nat):It:=⟨fun i _=>i < n,fun i H x H'=>H' = H∧x = .int (lo+i),fun i _=>n≤i⟩
theorem turn_list {P:Program} {w:World} {K:PySem.W.Frag} {tg:Expr} (a it:Addr):Turn P w K tg (Itl K a) [it] it (fun i h=>h.IsListIter it a i) where
  mem:=by simp
  obj:=fun i h st b hb=>by
    have e:b = it:=by simpa using hb
    subst e
    obtain ⟨o,e,c,d⟩:=st
    exact ⟨o,e,fun v z=>by rw [d] at z; cases z⟩
  keep:=fun i h h' st k=>st.at fun o e=>k it (by simp) o e
  item:=by
    intro X hP hw hK hc i pins s σ H E I hf st hg
    subst hP hw hK
    obtain ⟨xs,x,hq,hx⟩:=hg
    obtain ⟨its,rv,p,hz⟩:=I.list hq
    obtain ⟨u,hu,ru⟩:=rv.get hx
    obtain ⟨f0,f1,f2,f3,f4,f5⟩:=hf it (by simp)
    refine wpAny_pyNext_list_item st p.isList (x:=u) (by simpa using hu) fun h' st' sb=>?_
    have I1:Inv X pins σ H { s with heap:=h' }:=I.turned (t':=s.toks) (fun b o hb e=>(sb.2 b hb).trans e) f0 f1 f3 f4 f5
    obtain ⟨o,e,c,d⟩:=id st'
    exact ⟨u,rfl,go_of (s:={ s with heap:=h' }) e c d (by decide) ⟨x,H,I1,ru,⟨rfl,fun ys hy=>by rw [I.list_inj hy hq]; exact hx⟩,st',fun b hb=>(hf b hb).1⟩⟩
  done:=by
    intro X hP hw hK hc i pins s σ H E I hf st hg
    subst hP hw hK
    obtain ⟨xs,hq,hx⟩:=hg
    obtain ⟨its,rv,p,hz⟩:=I.list hq
    obtain ⟨f0,f1,f2,f3,f4,f5⟩:=hf it (by simp)
    have hl:=rv.length
    exact wpAny_pyNext_list_end (I.ok.hd hc) st p.isList (by simp; omega) fun h' eb=>⟨rfl,I.turned (t':=s.toks) (fun b o hb e=>eb b o hb e) f0 f1 f3 f4 f5⟩
  self:=fun _ _ _ _ _ st h=>wpAny_pyIter_listiter st h
theorem turn_tuple {P:Program} {w:World} {K:PySem.W.Frag} {tg:Expr} (a it:Addr):Turn P w K tg (Itt K a) [it] it (fun i h=>h.IsTupleIter it a i) where
  mem:=by simp
  obj:=fun i h st b hb=>by
    have e:b = it:=by simpa using hb
    subst e
    obtain ⟨o,e,c,d⟩:=st
    exact ⟨o,e,fun v z=>by rw [d] at z; cases z⟩
  keep:=fun i h h' st k=>st.at fun o e=>k it (by simp) o e
  item:=by
    intro X hP hw hK hc i pins s σ H E I hf st hg
    subst hP hw hK
    obtain ⟨xs,x,hq,hx⟩:=hg
    obtain ⟨its,rv,p,hz⟩:=I.tuple hq
    obtain ⟨u,hu,ru⟩:=rv.get hx
    obtain ⟨f0,f1,f2,f3,f4,f5⟩:=hf it (by simp)
    refine wpAny_pyNext_tuple_item st (show s.heap.IsTuple a its.toArray from p) (x:=u) (by simpa using hu) fun h' st' sb=>?_
    have I1:Inv X pins σ H { s with heap:=h' }:=I.turned (t':=s.toks) (fun b o hb e=>(sb.2 b hb).trans e) f0 f1 f3 f4 f5
    obtain ⟨o,e,c,d⟩:=id st'
    exact ⟨u,rfl,go_of (s:={ s with heap:=h' }) e c d (by decide) ⟨x,H,I1,ru,⟨rfl,fun ys hy=>by rw [I.tuple_inj hy hq]; exact hx⟩,st',fun b hb=>(hf b hb).1⟩⟩
  done:=by
    intro X hP hw hK hc i pins s σ H E I hf st hg
    subst hP hw hK
    obtain ⟨xs,hq,hx⟩:=hg
    obtain ⟨its,rv,p,hz⟩:=I.tuple hq
    obtain ⟨f0,f1,f2,f3,f4,f5⟩:=hf it (by simp)
    have hl:=rv.length
    exact wpAny_pyNext_tuple_end (I.ok.hd hc) st (show s.heap.IsTuple a its.toArray from p) (by simp; omega) fun h' eb=>⟨rfl,I.turned (t':=s.toks) (fun b o hb e=>eb b o hb e) f0 f1 f3 f4 f5⟩
  self:=fun _ _ _ _ _ st h=>wpAny_pyIter_tupleiter st h
theorem turn_range {P:Program} {w:World} {K:PySem.W.Frag} {tg:Expr} (it:Addr) (lo:Int) (n:Nat):Turn P w K tg (Itr lo n) [it] it (fun i h=>IsRangeIter h it (lo+(i:Nat)*1) ((n:Int) - (i:Nat)) 1) where
  mem:=by simp
  obj:=fun i h st b hb=>by
    have e:b = it:=by simpa using hb
    subst e
    exact ⟨_,st,fun v z=>by
      have z':Data.fields _ = Data.cell v:=z
      cases z'⟩
  keep:=fun i h h' st k=>k it (by simp) _ st
  item:=by
    intro X hP hw hK hc i pins s σ H E I hf st hg
    subst hP hw hK
    obtain ⟨f0,f1,f2,f3,f4,f5⟩:=hf it (by simp)
    have W:=Walks.range (prog:=X.prog) (w:=X.w) (I.ok.hd hc) it lo 1 n
    refine W.item i s _ _ hg st fun v h' tk hv st' kk=>?_
    obtain ⟨t,rfl⟩:=hv
    have I1:Inv X pins σ H { s with heap:=h',toks:=tk }:=I.turned (fun b o hb e=>kk b o (by simpa using hb) e) f0 f1 f3 f4 f5
    refine ⟨_,rfl,go_of (s:={ s with heap:=h',toks:=tk }) (n:="range_iterator") st' rfl rfl (by decide) ⟨.int (lo+i),H,I1,⟨t,?_⟩,⟨rfl,rfl⟩,st',fun b hb=>(hf b hb).1⟩⟩
    rw [Int.mul_one]
  done:=by
    intro X hP hw hK hc i pins s σ H E I hf st hg
    subst hP hw hK
    obtain ⟨f0,f1,f2,f3,f4,f5⟩:=hf it (by simp)
    exact wpAny_pyNext_range_end (I.ok.hd hc) st (by have:n≤i:=hg; omega) fun h' eb=>⟨rfl,I.turned (t':=s.toks) (fun b o hb e=>eb b o hb e) f0 f1 f3 f4 f5⟩
  self:=fun _ _ _ _ _ st h=>wpAny_pyIter_rangeiter st h
end L2

namespace L2
open PySem PySem.Spec PyProof.Rows
section
variable {X:Cx} {tg:Expr}
def iList (K:PySem.W.Frag) (tl:TE):TI:=fun σ H R=>tl σ H fun x H1=>∃ a,x = .ref a∧(∃ xs,SqL K H1 a xs)∧R (Itl K a) H1
def iTup (K:PySem.W.Frag) (tl:TE):TI:=fun σ H R=>tl σ H fun x H1=>∃ a,x = .ref a∧(∃ xs,SqT K H1 a xs)∧R (Itt K a) H1
theorem pi_list {l:Expr} {tl:TE} (hl:PE X l tl):PI X tg l (iList X.K tl):=by
  intro pins s σ H R I h
  refine thn (hl pins s σ H _ I h) fun v s1 ⟨x,H1,I1,r1,q1⟩=>?_
  obtain ⟨a,e,⟨xs,hq⟩,q⟩:=q1
  subst e
  cases r1
  obtain ⟨its,rv,p,hz⟩:=I1.list hq
  refine wpAny_pyIter_list p.isList ?_
  refine ⟨s1.heap.objs.size,[s1.heap.objs.size],_,_,H1,rfl,I1.kept (t':=s1.toks) fun b o e=>Heap.get?_push_of_some _ e,turn_list a _,⟨_,Heap.get?_push_size _ rfl,rfl,rfl⟩,fun b hb=>?_,q⟩
  have e:b = s1.heap.objs.size:=by simpa using hb
  subst e
  exact I1.fpOk (Nat.le_refl _) (I1.hok.fresh (Nat.le_refl _))
theorem pi_tup {l:Expr} {tl:TE} (hl:PE X l tl):PI X tg l (iTup X.K tl):=by
  intro pins s σ H R I h
  refine thn (hl pins s σ H _ I h) fun v s1 ⟨x,H1,I1,r1,q1⟩=>?_
  obtain ⟨a,e,⟨xs,hq⟩,q⟩:=q1
  subst e
  cases r1
  obtain ⟨its,rv,p,hz⟩:=I1.tuple hq
  refine wpAny_pyIter_tuple (show s1.heap.IsTuple a its.toArray from p) ?_
  refine ⟨s1.heap.objs.size,[s1.heap.objs.size],_,_,H1,rfl,I1.kept (t':=s1.toks) fun b o e=>Heap.get?_push_of_some _ e,turn_tuple a _,⟨_,Heap.get?_push_size _ rfl,rfl,rfl⟩,fun b hb=>?_,q⟩
  have e:b = s1.heap.objs.size:=by simpa using hb
  subst e
  exact I1.fpOk (Nat.le_refl _) (I1.hok.fresh (Nat.le_refl _))
theorem range_it {pins:List (Addr×Obj)} {σ:St} {H:Hp} {s:Shared} {R:It→Hp→Prop} {E:Value→Shared→Prop} {lo hi:Int} {t u v:Tok} {tk:Nat} (I:Inv X pins σ H s) (h1:-(2 ^ 62)≤lo) (h2:lo < 2 ^ 62) (h3:-(2 ^ 62)≤hi) (h4:hi < 2 ^ 62)
    (q:R (Itr lo (hi - lo).toNat) H):wpAny (model X.prog X.w) X.A (pyIter (.ref s.heap.objs.size)) (PIE X pins σ tg R) E { s with heap:=s.heap.push { cls:=.type "range",data:=.fields #[.int lo t,.int hi u,.int 1 v] },toks:=tk }:=by
  refine wpAny_pyIter_range (IsRange.new ..) (small_one h1 h2 h3 h4) ?_
  have I1:Inv X pins σ H { s with heap:=s.heap.push { cls:=.type "range",data:=.fields #[.int lo t,.int hi u,.int 1 v] },toks:=tk }:=I.kept fun b o e=>Heap.get?_push_of_some _ e
  refine ⟨(s.heap.push { cls:=.type "range",data:=.fields #[.int lo t,.int hi u,.int 1 v] }).objs.size,[(s.heap.push { cls:=.type "range",data:=.fields #[.int lo t,.int hi u,.int 1 v] }).objs.size],_,_,H,rfl,
    I1.kept (t':=tk) fun b o e=>Heap.get?_push_of_some _ e,turn_range _ lo (hi - lo).toNat,?_,fun b hb=>?_,q⟩
  · have e1:lo+((0:Nat):Int)*1 = lo:=by simp
    have e2:(((hi - lo).toNat:Nat):Int) - ((0:Nat):Int) = Builtin.Range.rangeSize lo hi 1:=by rw [rangeSize_one]; split<;>omega
    show IsRangeIter _ _ (lo+((0:Nat):Int)*1) ((((hi - lo).toNat:Nat):Int) - ((0:Nat):Int)) 1
    rw [e1,e2]
    exact Heap.get?_push_size _ rfl
  · have e:b = (s.heap.push { cls:=.type "range",data:=.fields #[.int lo t,.int hi u,.int 1 v] }).objs.size:=by simpa using hb
    subst e
    exact I1.fpOk (Nat.le_refl _) (I1.hok.fresh (Nat.le_refl _))
def iRng1 (ta:TA):TI:=fun σ H R=>ta σ H fun vs H1=>∃ j:Int,vs = [.int j]∧-(2 ^ 62)≤j∧j < 2 ^ 62∧R (Itr 0 j.toNat) H1
theorem pi_range1 {a:Expr} {ta:TA} {p pos:Pos} (hg:Gl X "range") (hm:X.mg "range" = none) (ha:PA X [a] ta) (hs:starEach [a] X.env = [(false,eval a X.env)]:=by rfl):PI X tg (.Call (.Name "range" p) [a] [] pos) (iRng1 ta):=by
  intro pins s σ H R I h
  refine Call_ (ld_blt I hg hm boot_range (PyProof.Rows.callWith_type1 (thn (ha pos pins s σ H _ I h) fun us s1 ⟨vs,H1,I1,r1,q1⟩=>?_) hs rfl))
  obtain ⟨j,e,q1,q2,q⟩:=q1
  subst e
  cases r1 with
  | cons r rr =>
    cases rr
    obtain ⟨t,rfl⟩:=r
    exact call_range_1 (range_it I1 (by omega) (by omega) q1 q2 (by simpa using q))
def tFor (wi:TI) (g:TG) (tb:TS):TS:=fun D σ H=>wi σ H fun J H1=>∃ W:Nat→Nat→St→Hp→Prop,(∃ m,W 0 m σ H1)∧∀ i m σ H,W i m σ H →
  (J.stop i H∧D.nx σ H)∨(J.go i H∧∃ N:St→Hp→Prop,(∀ σ' H',N σ' H'→∃ m',m' < m∧W (i+1) m' σ' H')∧∀ x H',J.yld i H x H'→g x σ H' fun σ2 H2=>tb { D with nx:=N,ct:=N,bk:=D.nx } σ2 H2)
def pinsAt (fp:List Addr) (h:Heap):List (Addr×Obj):=fp.filterMap fun b=>(h.get? b).map fun o=>(b,o)
theorem mem_pinsAt {fp:List Addr} {h:Heap} {b:Addr} {o:Obj} (hb:b∈fp) (e:h.get? b = some o):(b,o)∈pinsAt fp h:=List.mem_filterMap.mpr ⟨b,hb,by rw [e]; rfl⟩
theorem of_pinsAt {fp:List Addr} {h:Heap} {p:Addr×Obj} (hp:p∈pinsAt fp h):p.1∈fp∧h.get? p.1 = some p.2:=by
  obtain ⟨b,hb,e⟩:=List.mem_filterMap.mp hp
  cases q:h.get? b with
  | none=>rw [q] at e; cases e
  | some o =>
    rw [q] at e
    have e':(b,o) = p:=Option.some.inj e
    subst e'
    exact ⟨hb,q⟩
theorem Inv.pinned {pins:List (Addr×Obj)} {σ:St} {H:Hp} {s:Shared} {fp:List Addr} (I:Inv X pins σ H s) (hf:∀ b∈fp,FpOk X pins H b) (ho:∀ b∈fp,∃ o,s.heap.get? b = some o∧∀ v,o.data≠.cell v):Inv X (pins++pinsAt fp s.heap) σ H s :=
  I.pins_of fun p hp=>(List.mem_append.mp hp).elim (fun z=>I.pin p (List.mem_append_right _ z)) fun z=>by
    obtain ⟨hb,e⟩:=of_pinsAt z
    obtain ⟨f0,f1,f2,_⟩:=hf p.1 hb
    obtain ⟨o,e',d⟩:=ho p.1 hb
    rw [e] at e'; cases e'
    exact ⟨e,f0,f1,f2,d⟩
theorem Inv.unpinned {pins pl:List (Addr×Obj)} {σ:St} {H:Hp} {s:Shared} (I:Inv X (pins++pl) σ H s):Inv X pins σ H s:=I.pins_of fun p hp=>I.pin p (List.mem_append_right _ (List.mem_append_left _ hp))
theorem ps_for {iter:Expr} {body:List Stmt} {wi:TI} {g:TG} {tb:TS} {pos:Pos} (hp:PassesOwn (model X.prog X.w) X.A X.env X.xe) (hc:X.calm = true) (hi:PI X tg iter wi) (hg:PG X tg g) (hb:PSs X body tb)
    (hs:∀ x,foldedSetIterable iter X.env x = pure x:=by intro _; rfl):PS X (.For tg iter body [] pos) (tFor wi g tb):=by
  intro pins s σ H D I h
  refine wpAny_For (thn (hi pins s σ H _ I h) fun v s1 h1=>thn h1 fun itv s2 h2=>?_) hs
  obtain ⟨it,fp,tn,J,H2,e,I2,T,st2,f2,W,⟨m0,w0⟩,turn⟩:=h2
  subst e
  -- what stays true of the iterator's objects through the loop
  have stat:∀ {H':Hp},(∀ b∈fp,H' b = none)→∀ b∈fp,FpOk X pins H' b:=fun hn b hb=>⟨hn b hb,(f2 b hb).2⟩
  refine codeAny_forLoop_any (fun n s'=>∃ i σ' H',Inv X pins σ' H' s'∧tn i s'.heap∧(∀ b∈fp,H' b = none)∧W i n σ' H') ?_ m0 ⟨0,σ,H2,I2,st2,fun b hb=>(f2 b hb).1,w0⟩
  rintro n s3 ⟨i,σ3,H3,I3,st3,fr3,w3⟩
  rcases turn i n σ3 H3 w3 with ⟨stop,qn⟩ | ⟨go,N,hN,step⟩
  · refine wpAny_passesOwn hp (thn (T.done X rfl rfl rfl hc i pins s3 σ3 H3 X.xe I3 (stat fr3) st3 stop) fun r s4 ⟨hr,I4⟩=>?_)
    subst hr
    exact wpAny_execs_nil ⟨σ3,H3,I4,qn⟩
  · refine wpAny_passesOwn hp (thn (T.item X rfl rfl rfl hc i pins s3 σ3 H3 X.xe I3 (stat fr3) st3 go) fun r s4 ⟨u,hr,h4⟩=>?_)
    subst hr
    refine wpAny_passesOwn hp (thn h4 fun _ s5 ⟨x,H5,I5,r5,y5,st5,fr5⟩=>?_)
    have I5':=I5.pinned (stat fr5) (T.obj _ _ st5)
    refine wpAny_passesOwn hp (thn (hg _ s5 σ3 H5 x u _ I5' r5 (step x H5 y5)) fun _ s6 ⟨σ6,H6,I6,q6⟩=>?_)
    refine wpAny_passesOwn hp (thn (hb _ s6 σ6 H6 _ I6 q6) fun f s7 q7=>?_)
    have again:∀ {σ7:St} {H7:Hp},Inv X (pins++pinsAt fp s5.heap) σ7 H7 s7→N σ7 H7→∃ m,m < n∧∃ i σ' H',Inv X pins σ' H' s7∧tn i s7.heap∧(∀ b∈fp,H' b = none)∧W i m σ' H':=fun {σ7 H7} I7 n7=>by
      obtain ⟨m',hm,w7⟩:=hN σ7 H7 n7
      refine ⟨m',hm,i+1,σ7,H7,I7.unpinned,T.keep _ _ _ st5 fun b hb o e=>(I7.pin (b,o) (List.mem_append_right _ (List.mem_append_right _ (mem_pinsAt hb e)))).1,fun b hb=>?_,w7⟩
      obtain ⟨o,e,d⟩:=T.obj _ _ st5 b hb
      exact (I7.pin (b,o) (List.mem_append_right _ (List.mem_append_right _ (mem_pinsAt hb e)))).2.1
    cases f with
    | next=>obtain ⟨σ7,H7,I7,n7⟩:=q7; exact again I7 n7
    | cont=>obtain ⟨σ7,H7,I7,n7⟩:=q7; exact again I7 n7
    | brk=>obtain ⟨σ7,H7,I7,q7⟩:=q7; exact ⟨σ7,H7,I7.unpinned,q7⟩
    | ret v=>obtain ⟨x7,σ7,H7,I7,r7,q7⟩:=q7; exact ⟨x7,σ7,H7,I7.unpinned,r7,q7⟩
end

theorem for_list {K:PySem.W.Frag} {a:Addr} {xs:List V} {g:TG} {tb:TS} {D:Ends} {σ:St} {H:Hp} (Pv:Nat→St→Hp→Prop) (h0:Pv 0 σ H) (hl:∀ i σ H,i≤xs.length→Pv i σ H→SqL K H a xs)
    (hs:∀ i x σ H,xs[i]? = some x→Pv i σ H→g x σ H fun σ2 H2=>tb { D with nx:=Pv (i+1),ct:=Pv (i+1),bk:=D.nx } σ2 H2) (hd:∀ σ H,Pv xs.length σ H→D.nx σ H) :
    ∃ W:Nat→Nat→St→Hp→Prop,(∃ m,W 0 m σ H)∧∀ i m σ H,W i m σ H →
      ((Itl K a).stop i H∧D.nx σ H)∨((Itl K a).go i H∧∃ N:St→Hp→Prop,(∀ σ' H',N σ' H'→∃ m',m' < m∧W (i+1) m' σ' H')∧∀ x H',(Itl K a).yld i H x H'→g x σ H' fun σ2 H2=>tb { D with nx:=N,ct:=N,bk:=D.nx } σ2 H2):=by
  refine ⟨fun i m σ H=>m = xs.length - i∧i≤xs.length∧Pv i σ H,⟨xs.length,by simp,Nat.zero_le _,h0⟩,?_⟩
  rintro i m σ H ⟨rfl,hi,p⟩
  have q:=hl i σ H hi p
  by_cases hlt:i < xs.length
  · refine .inr ⟨⟨xs,xs[i],q,by simp [hlt]⟩,Pv (i+1),fun σ' H' p'=>⟨xs.length - (i+1),by omega,rfl,hlt,p'⟩,fun x H' y=>?_⟩
    obtain ⟨e,y⟩:=y
    subst e
    exact hs i x σ _ (y xs q) p
  · have e:i = xs.length:=by omega
    subst e
    exact .inl ⟨⟨xs,q,Nat.le_refl _⟩,hd σ H p⟩
theorem for_tup {K:PySem.W.Frag} {a:Addr} {xs:List V} {g:TG} {tb:TS} {D:Ends} {σ:St} {H:Hp} (Pv:Nat→St→Hp→Prop) (h0:Pv 0 σ H) (hl:∀ i σ H,i≤xs.length→Pv i σ H→SqT K H a xs)
    (hs:∀ i x σ H,xs[i]? = some x→Pv i σ H→g x σ H fun σ2 H2=>tb { D with nx:=Pv (i+1),ct:=Pv (i+1),bk:=D.nx } σ2 H2) (hd:∀ σ H,Pv xs.length σ H→D.nx σ H) :
    ∃ W:Nat→Nat→St→Hp→Prop,(∃ m,W 0 m σ H)∧∀ i m σ H,W i m σ H →
      ((Itt K a).stop i H∧D.nx σ H)∨((Itt K a).go i H∧∃ N:St→Hp→Prop,(∀ σ' H',N σ' H'→∃ m',m' < m∧W (i+1) m' σ' H')∧∀ x H',(Itt K a).yld i H x H'→g x σ H' fun σ2 H2=>tb { D with nx:=N,ct:=N,bk:=D.nx } σ2 H2):=by
  refine ⟨fun i m σ H=>m = xs.length - i∧i≤xs.length∧Pv i σ H,⟨xs.length,by simp,Nat.zero_le _,h0⟩,?_⟩
  rintro i m σ H ⟨rfl,hi,p⟩
  have q:=hl i σ H hi p
  by_cases hlt:i < xs.length
  · refine .inr ⟨⟨xs,xs[i],q,by simp [hlt]⟩,Pv (i+1),fun σ' H' p'=>⟨xs.length - (i+1),by omega,rfl,hlt,p'⟩,fun x H' y=>?_⟩
    obtain ⟨e,y⟩:=y
    subst e
    exact hs i x σ _ (y xs q) p
  · have e:i = xs.length:=by omega
    subst e
    exact .inl ⟨⟨xs,q,Nat.le_refl _⟩,hd σ H p⟩
theorem for_range {lo:Int} {n:Nat} {g:TG} {tb:TS} {D:Ends} {σ:St} {H:Hp} (Pv:Nat→St→Hp→Prop) (h0:Pv 0 σ H)
    (hs:∀ i σ H,i < n→Pv i σ H→g (.int (lo+i)) σ H fun σ2 H2=>tb { D with nx:=Pv (i+1),ct:=Pv (i+1),bk:=D.nx } σ2 H2) (hd:∀ σ H,Pv n σ H→D.nx σ H) :
    ∃ W:Nat→Nat→St→Hp→Prop,(∃ m,W 0 m σ H)∧∀ i m σ H,W i m σ H →
      ((Itr lo n).stop i H∧D.nx σ H)∨((Itr lo n).go i H∧∃ N:St→Hp→Prop,(∀ σ' H',N σ' H'→∃ m',m' < m∧W (i+1) m' σ' H')∧∀ x H',(Itr lo n).yld i H x H'→g x σ H' fun σ2 H2=>tb { D with nx:=N,ct:=N,bk:=D.nx } σ2 H2):=by
  refine ⟨fun i m σ H=>m = n - i∧i≤n∧Pv i σ H,⟨n,by simp,Nat.zero_le _,h0⟩,?_⟩
  rintro i m σ H ⟨rfl,hi,p⟩
  by_cases hlt:i < n
  · refine .inr ⟨hlt,Pv (i+1),fun σ' H' p'=>⟨n - (i+1),by omega,rfl,hlt,p'⟩,fun x H' y=>?_⟩
    obtain ⟨e,y⟩:=y
    subst e y
    exact hs i σ _ hlt p
  · have e:i = n:=by omega
    subst e
    exact .inl ⟨Nat.le_refl _,hd σ H p⟩
end L2

namespace L2
open PySem PySem.Spec PyProof.Rows

abbrev R2:=V→V→Hp→VK→Prop
def OpR (X:Cx) (f:Value→Value→Sem Value) (r:R2):Prop :=
  ∀ (pins:List (Addr×Obj)) (s:Shared) (σ:St) (H:Hp) (x y:V) (v u:Value) (Q:VK),Inv X pins σ H s→RelV x v→RelV y u→r x y H Q →
    wpAny (model X.prog X.w) X.A (f v u) (EP X pins σ Q) X.xe s
def UnR (X:Cx) (f:Value→Sem Value) (r:V→Hp→VK→Prop):Prop :=
  ∀ (pins:List (Addr×Obj)) (s:Shared) (σ:St) (H:Hp) (x:V) (v:Value) (Q:VK),Inv X pins σ H s→RelV x v→r x H Q →
    wpAny (model X.prog X.w) X.A (f v) (EP X pins σ Q) X.xe s
def CallR (X:Cx) (f:Value) (r:List V→Hp→VK→Prop):Prop :=
  ∀ (pins:List (Addr×Obj)) (s:Shared) (σ:St) (H:Hp) (xs:List V) (us:List Value) (Q:VK),Inv X pins σ H s→Vals xs us→r xs H Q →
    wpAny (model X.prog X.w) X.A (call f us) (EP X pins σ Q) X.xe s
def tOp (r:R2) (ta tb:TE):TE:=fun σ H Q=>ta σ H fun x H1=>tb σ H1 fun y H2=>r x y H2 Q
def tUn (r:V→Hp→VK→Prop) (ta:TE):TE:=fun σ H Q=>ta σ H fun x H1=>r x H1 Q
def rI (C:Int→Int→Prop) (g:Int→Int→V):R2:=fun x y H Q=>∃ i j,x = .int i∧y = .int j∧C i j∧Q (g i j) H
def rI0 (g:Int→Int→V):R2:=fun x y H Q=>∃ i j,x = .int i∧y = .int j∧Q (g i j) H
def rU (g:Int→V):V→Hp→VK→Prop:=fun x H Q=>∃ i,x = .int i∧Q (g i) H

section
variable {X:Cx} {a b c:Expr} {ta tb tc:TE} {pos:Pos}

theorem binT (ha:PE X a ta) (hb:PE X b tb) {pins:List (Addr×Obj)} {s:Shared} {σ:St} {H:Hp} {R:V→V→Hp→Prop} (I:Inv X pins σ H s)
    (h:ta σ H fun x H1=>tb σ H1 fun y H2=>R x y H2) {Q:Value→Shared→Prop} {f:Value→Value→Sem Value}
    (hf:∀ v u s2 x y H2,Inv X pins σ H2 s2→RelV x v→RelV y u→R x y H2→wpAny (model X.prog X.w) X.A (f v u) Q X.xe s2) :
    wpAny (model X.prog X.w) X.A (eval a X.env) (fun v s₁=>wpAny (model X.prog X.w) X.A (eval b X.env) (fun u s₂=>wpAny (model X.prog X.w) X.A (f v u) Q X.xe s₂) X.xe s₁) X.xe s:=by
  refine thn (ha pins s σ H _ I h) fun v s1 ⟨x,H1,I1,r1,q1⟩=>?_
  refine thn (hb pins s1 σ H1 _ I1 q1) fun u s2 ⟨y,H2,I2,r2,q2⟩=>?_
  exact hf v u s2 x y H2 I2 r1 r2 q2

theorem pe_op {op:Operator} {r:R2} (ho:OpR X (binaryOp op) r) (ha:PE X a ta) (hb:PE X b tb):PE X (.BinOp a op b pos) (tOp r ta tb):=by
  intro pins s σ H Q I h
  exact wpAny_BinOp (binT ha hb I h fun v u s2 x y H2 I2 rx ry q=>ho pins s2 σ H2 x y v u Q I2 rx ry q)
theorem pe_un {op:UnaryOp} {r:V→Hp→VK→Prop} (ho:UnR X (unaryOp op) r) (ha:PE X a ta):PE X (.UnaryOp op a pos) (tUn r ta):=by
  intro pins s σ H Q I h
  exact UnaryOp_ (thn (ha pins s σ H _ I h) fun v s1 ⟨x,H1,I1,r1,q1⟩=>ho pins s1 σ H1 x v Q I1 r1 q1)
theorem opI {f:Value→Value→Sem Value} {C:Int→Int→Prop} {g:Int→Int→Int}
    (rule:∀ (i j:Int) (t u:Tok) (s:Shared) (Q:Value→Shared→Prop) (E:Value→Shared→Prop),C i j→Q (.int (g i j) s.toks) { s with toks:=s.toks+1 }→wpAny (model X.prog X.w) X.A (f (.int i t) (.int j u)) Q E s) :
    OpR X f (rI C fun i j=>.int (g i j)):=by
  intro pins s σ H x y v u Q I rx ry h
  obtain ⟨i,j,rfl,rfl,hc,q⟩:=h
  obtain ⟨t,rfl⟩:=rx
  obtain ⟨t',rfl⟩:=ry
  exact rule i j t t' s _ _ hc ⟨.int (g i j),H,I.tok _,⟨_,rfl⟩,q⟩
theorem opI0 {f:Value→Value→Sem Value} {g:Int→Int→Int}
    (rule:∀ (i j:Int) (t u:Tok) (s:Shared) (Q:Value→Shared→Prop) (E:Value→Shared→Prop),Q (.int (g i j) s.toks) { s with toks:=s.toks+1 }→wpAny (model X.prog X.w) X.A (f (.int i t) (.int j u)) Q E s) :
    OpR X f (rI0 fun i j=>.int (g i j)):=by
  intro pins s σ H x y v u Q I rx ry h
  obtain ⟨i,j,rfl,rfl,q⟩:=h
  obtain ⟨t,rfl⟩:=rx
  obtain ⟨t',rfl⟩:=ry
  exact rule i j t t' s _ _ ⟨.int (g i j),H,I.tok _,⟨_,rfl⟩,q⟩
theorem opB0 {f:Value→Value→Sem Value} {g:Int→Int→Bool}
    (rule:∀ (i j:Int) (t u:Tok) (s:Shared) (Q:Value→Shared→Prop) (E:Value→Shared→Prop),Q (.bool (g i j)) s→wpAny (model X.prog X.w) X.A (f (.int i t) (.int j u)) Q E s) :
    OpR X f (rI0 fun i j=>.bl (g i j)):=by
  intro pins s σ H x y v u Q I rx ry h
  obtain ⟨i,j,rfl,rfl,q⟩:=h
  obtain ⟨t,rfl⟩:=rx
  obtain ⟨t',rfl⟩:=ry
  exact rule i j t t' s _ _ ⟨.bl (g i j),H,I,rfl,q⟩

def CDiv (i j:Int):Prop:=0 < j∧j < 1073741824
def CMul (i j:Int):Prop:=(-(2 ^ 64) < i∧i < 2 ^ 64)∨(-(2 ^ 64) < j∧j < 2 ^ 64)
theorem CMul.ok {i j:Int} (h:CMul i j):IntMulOk i j:=by
  rcases h with ⟨h1,h2⟩ | ⟨h1,h2⟩
  · exact .of_left (intBits_le_64 h1 h2)
  · exact .of_right (intBits_le_64 h1 h2)
theorem op_add:OpR X (binaryOp .Add) (rI0 fun i j=>.int (i+j)):=opI0 fun _ _ _ _ _ _ _ q=>add_int q
theorem op_sub:OpR X (binaryOp .Sub) (rI0 fun i j=>.int (i - j)):=opI0 fun _ _ _ _ _ _ _ q=>sub_int q
theorem op_mul:OpR X (binaryOp .Mult) (rI CMul fun i j=>.int (i*j)):=opI fun _ _ _ _ _ _ _ hc q=>mul_int q hc.ok
theorem op_fdiv:OpR X (binaryOp .FloorDiv) (rI CDiv fun i j=>.int (i / j)):=opI fun i j _ _ _ _ _ hc q=>by
  have h1:(0:Int) < j:=hc.1
  have h2:j < 1073741824:=hc.2
  exact floordiv_int (by omega) (by rw [Int.fdiv_eq_ediv_of_nonneg i (by omega)]; exact q) (.inl (PyProof.noPylong_small (by omega)))
theorem op_mod:OpR X (binaryOp .Mod) (rI (fun _ j=>0 < j) fun i j=>.int (i % j)):=opI fun i j _ _ _ _ _ hc q=>by
  have h1:(0:Int) < j:=hc
  exact mod_int' (by omega) (by rw [Int.fmod_eq_emod_of_nonneg i (by omega)]; exact q)
theorem unI {f:Value→Sem Value} {g:Int→Int}
    (rule:∀ (i:Int) (t:Tok) (s:Shared) (Q:Value→Shared→Prop) (E:Value→Shared→Prop),Q (.int (g i) s.toks) { s with toks:=s.toks+1 }→wpAny (model X.prog X.w) X.A (f (.int i t)) Q E s) :
    UnR X f (rU fun i=>.int (g i)):=by
  intro pins s σ H x v Q I rx h
  obtain ⟨i,rfl,q⟩:=h
  obtain ⟨t,rfl⟩:=rx
  exact rule i t s _ _ ⟨.int (g i),H,I.tok _,⟨_,rfl⟩,q⟩
theorem un_neg:UnR X (unaryOp .USub) (rU fun i=>.int (-i)):=unI fun _ _ _ _ _ q=>neg_int q
end

def scal:V→V→Bool
  | .non,.non=>true | .non,.int _=>true | .int _,.non=>true | .non,.bl _=>true | .bl _,.non=>true | .non,.str _=>true | .str _,.non=>true
  | .int _,.int _=>true | .bl _,.bl _=>true | .str _,.str _=>true | .byt _,.byt _=>true
  | .int _,.str _=>true | .str _,.int _=>true | .bl _,.str _=>true | .str _,.bl _=>true
  | _,_=>false
def rEq:R2:=fun x y H Q=>scal x y = true∧Q (.bl (decide (x = y))) H
def rNe:R2:=fun x y H Q=>scal x y = true∧Q (.bl (!decide (x = y))) H

theorem dec_int {i j:Int}:decide (V.int i = V.int j) = (i == j):=by
  rw [Bool.eq_iff_iff]
  simp
theorem dec_bl {i j:Bool}:decide (V.bl i = V.bl j) = (i == j):=by
  rw [Bool.eq_iff_iff]
  simp
theorem dec_str {i j:Str}:decide (V.str i = V.str j) = (i == j):=by
  rw [Bool.eq_iff_iff]
  simp
theorem dec_byt {i j:Array UInt8}:decide (V.byt i = V.byt j) = (i.toList == j.toList):=by
  rw [Bool.eq_iff_iff]
  cases i
  cases j
  simp

section
variable {X:Cx} {a b c:Expr} {ta tb tc:TE} {pos:Pos}
theorem fin_bl {pins:List (Addr×Obj)} {σ:St} {H:Hp} {s:Shared} {Q:VK} {k k':Bool} (I:Inv X pins σ H s) (q:Q (.bl k) H) (e:k = k'):EP X pins σ Q (.bool k') s:=by
  subst e
  exact ⟨.bl k,H,I,rfl,q⟩
theorem op_eq:OpR X (compareOp .Eq) rEq:=by
  intro pins s σ H x y v u Q I rx ry h
  obtain ⟨hs,q⟩:=h
  cases x with
  | non =>
    cases rx
    cases y with
    | non=>cases ry; exact PySem.EqNone.eq_none_none (fin_bl I q (by simp))
    | bl j=>cases ry; exact PySem.EqNone.eq_none_bool (fin_bl I q (by simp))
    | int j=>obtain ⟨t',rfl⟩:=ry; exact PySem.EqNone.eq_none_int (fin_bl I q (by simp))
    | str j=>obtain ⟨t',rfl⟩:=ry; exact PySem.EqNone.eq_none_str (fin_bl I q (by simp))
    | _=>exact absurd (show false = true from hs) Bool.false_ne_true
  | bl i =>
    cases rx
    cases y with
    | non=>cases ry; exact PySem.EqNone.eq_bool_none (fin_bl I q (by simp))
    | bl j=>cases ry; exact eq_bool (fin_bl I q dec_bl)
    | str j=>obtain ⟨t',rfl⟩:=ry; exact PySem.EqMixed.eq_bool_str (fin_bl I q (by simp))
    | _=>exact absurd (show false = true from hs) Bool.false_ne_true
  | int i =>
    obtain ⟨t,rfl⟩:=rx
    cases y with
    | non=>cases ry; exact PySem.EqNone.eq_int_none (fin_bl I q (by simp))
    | int j=>obtain ⟨t',rfl⟩:=ry; exact eq_int (fin_bl I q dec_int)
    | str j=>obtain ⟨t',rfl⟩:=ry; exact PySem.EqMixed.eq_int_str (fin_bl I q (by simp))
    | _=>exact absurd (show false = true from hs) Bool.false_ne_true
  | str i =>
    obtain ⟨t,rfl⟩:=rx
    cases y with
    | non=>cases ry; exact PySem.EqNone.eq_str_none (fin_bl I q (by simp))
    | bl j=>cases ry; exact PySem.EqMixed.eq_str_bool (fin_bl I q (by simp))
    | int j=>obtain ⟨t',rfl⟩:=ry; exact PySem.EqMixed.eq_str_int (fin_bl I q (by simp))
    | str j=>obtain ⟨t',rfl⟩:=ry; exact eq_str (fin_bl I q dec_str)
    | _=>exact absurd (show false = true from hs) Bool.false_ne_true
  | byt i =>
    obtain ⟨t,rfl⟩:=rx
    cases y with
    | byt j=>obtain ⟨t',rfl⟩:=ry; exact PySem.W.eq_bytes (fin_bl I q dec_byt)
    | _=>exact absurd (show false = true from hs) Bool.false_ne_true
  | _=>cases y<;>exact absurd (show false = true from hs) Bool.false_ne_true
theorem op_ne:OpR X (compareOp .NotEq) rNe:=by
  intro pins s σ H x y v u Q I rx ry h
  obtain ⟨hs,q⟩:=h
  cases x with
  | non =>
    cases rx
    cases y with
    | non=>cases ry; exact PySem.EqNone.ne_none_none (fin_bl I q (by simp))
    | bl j=>cases ry; exact PySem.EqNone.ne_none_bool (fin_bl I q (by simp))
    | int j=>obtain ⟨t',rfl⟩:=ry; exact PySem.EqNone.ne_none_int (fin_bl I q (by simp))
    | str j=>obtain ⟨t',rfl⟩:=ry; exact PySem.EqNone.ne_none_str (fin_bl I q (by simp))
    | _=>exact absurd (show false = true from hs) Bool.false_ne_true
  | bl i =>
    cases rx
    cases y with
    | non=>cases ry; exact PySem.EqNone.ne_bool_none (fin_bl I q (by simp))
    | bl j=>cases ry; exact ne_bool (fin_bl I q (congrArg not dec_bl))
    | str j=>obtain ⟨t',rfl⟩:=ry; exact PySem.EqMixed.ne_bool_str (fin_bl I q (by simp))
    | _=>exact absurd (show false = true from hs) Bool.false_ne_true
  | int i =>
    obtain ⟨t,rfl⟩:=rx
    cases y with
    | non=>cases ry; exact PySem.EqNone.ne_int_none (fin_bl I q (by simp))
    | int j=>obtain ⟨t',rfl⟩:=ry; exact ne_int (fin_bl I q (congrArg not dec_int))
    | str j=>obtain ⟨t',rfl⟩:=ry; exact PySem.EqMixed.ne_int_str (fin_bl I q (by simp))
    | _=>exact absurd (show false = true from hs) Bool.false_ne_true
  | str i =>
    obtain ⟨t,rfl⟩:=rx
    cases y with
    | non=>cases ry; exact PySem.EqNone.ne_str_none (fin_bl I q (by simp))
    | bl j=>cases ry; exact PySem.EqMixed.ne_str_bool (fin_bl I q (by simp))
    | int j=>obtain ⟨t',rfl⟩:=ry; exact PySem.EqMixed.ne_str_int (fin_bl I q (by simp))
    | str j=>obtain ⟨t',rfl⟩:=ry; exact ne_str (fin_bl I q (congrArg not dec_str))
    | _=>exact absurd (show false = true from hs) Bool.false_ne_true
  | byt i =>
    obtain ⟨t,rfl⟩:=rx
    cases y with
    | byt j=>obtain ⟨t',rfl⟩:=ry; exact PySem.W.ne_bytes (fin_bl I q (congrArg not dec_byt))
    | _=>exact absurd (show false = true from hs) Bool.false_ne_true
  | _=>cases y<;>exact absurd (show false = true from hs) Bool.false_ne_true

theorem op_lt:OpR X (compareOp .Lt) (rI0 fun i j=>.bl (decide (i < j))):=opB0 fun _ _ _ _ _ _ _ q=>lt_int q
theorem op_le:OpR X (compareOp .LtE) (rI0 fun i j=>.bl (decide (i≤j))):=opB0 fun _ _ _ _ _ _ _ q=>le_int q
theorem op_gt:OpR X (compareOp .Gt) (rI0 fun i j=>.bl (decide (j < i))):=opB0 fun _ _ _ _ _ _ _ q=>gt_int q
theorem op_ge:OpR X (compareOp .GtE) (rI0 fun i j=>.bl (decide (j≤i))):=opB0 fun _ _ _ _ _ _ _ q=>ge_int q
theorem op_in_str:OpR X (compareOp .In) (fun x y H Q=>∃ i j,x = .str i∧y = .str j∧Q (.bl (!(Builtin.Str.occurrences j i 0 j.length 1).isEmpty)) H):=by
  intro pins s σ H x y v u Q I rx ry h
  obtain ⟨i,j,rfl,rfl,q⟩:=h
  obtain ⟨t,rfl⟩:=rx
  obtain ⟨t',rfl⟩:=ry
  exact in_str (fin_bl I q rfl)

theorem op_isN:OpR X (compareOp .Is) (fun x y H Q=>y = .non∧Q (.bl (decide (x = .non))) H):=by
  intro pins s σ H x y v u Q I rx ry h
  obtain ⟨rfl,q⟩:=h
  cases ry
  refine is_none_gen (fin_bl I q ?_)
  cases x<;>first
    | (cases rx; rfl)
    | (obtain ⟨t,rfl⟩:=rx; rfl)
theorem nomark (b:Expr) {op:CmpOp} (h:op≠.In:=by decide) (h2:op≠.NotIn:=by decide):behindInMarks op b = false:=by
  have e1:(op == CmpOp.In) = false:=by cases op<;>first | rfl | exact absurd rfl h
  have e2:(op == CmpOp.NotIn) = false:=by cases op<;>first | rfl | exact absurd rfl h2
  cases b<;>simp [behindInMarks,e1,e2]
theorem pe_cmpR {op:CmpOp} {r:R2} (ho:OpR X (compareOp op) r) (ha:PE X a ta) (hb:PE X b tb) (hm:behindInMarks op b = false):PE X (.Compare a [op] [b] pos) (tOp r ta tb):=by
  intro pins s σ H Q I h
  exact wpAny_Compare1 (binT ha hb I h fun v u s2 x y H2 I2 rx ry q=>ho pins s2 σ H2 x y v u Q I2 rx ry q) hm
def tTest (t:TE):TT:=fun σ H Q=>t σ H fun x H'=>∃ k,x = .bl k∧Q k H'
theorem pt_cmpR {op:CmpOp} {r:R2} (ho:OpR X (compareOp op) r) (ha:PE X a ta) (hb:PE X b tb) (hm:behindInMarks op b = false):PT X (.Compare a [op] [b] pos) (tTest (tOp r ta tb)):=by
  intro pins s σ H Q I h
  refine wpAny_isTrue_Compare1 (thn (ha pins s σ H _ I h) fun v s1 ⟨x,H1,I1,r1,q1⟩=>thn (hb pins s1 σ H1 _ I1 q1) fun u s2 ⟨y,H2,I2,r2,q2⟩ =>
    thn (ho pins s2 σ H2 x y v u _ I2 r1 r2 q2) fun c s3 ⟨z,H3,I3,r3,k,e,q3⟩=>?_) hm
  subst e
  cases r3
  exact wpAny_truthy_bool ⟨H3,I3,q3⟩
theorem line63:(sizeLine:Nat) < 2 ^ 63:=by rw [sizeLine_eq]; decide
theorem op_add_str:OpR X (binaryOp .Add) (fun x y H Q=>∃ i j,x = .str i∧y = .str j∧i.length+j.length≤sizeLine∧Q (.str (i++j)) H):=by
  intro pins s σ H x y v u Q I rx ry h
  obtain ⟨i,j,rfl,rfl,hz,q⟩:=h
  obtain ⟨t,rfl⟩:=rx
  obtain ⟨t',rfl⟩:=ry
  exact add_str (fun t' tk=>⟨.str (i++j),H,I.tok _,⟨_,rfl⟩,q⟩) hz
theorem vals1 {x:V} {us:List Value} (r:Vals [x] us):∃ u,us = [u]∧RelV x u:=by
  cases r with
  | cons r1 r2=>cases r2; exact ⟨_,rfl,r1⟩
theorem vals2 {x y:V} {us:List Value} (r:Vals [x,y] us):∃ u w',us = [u,w']∧RelV x u∧RelV y w':=by
  cases r with
  | cons r1 r2 =>
    cases r2 with
    | cons r3 r4=>cases r4; exact ⟨_,_,rfl,r1,r3⟩
end
end L2

namespace L2
open PySem PySem.Spec PyProof.Rows

structure ObjM (h:Heap) (x dx C:Addr) (mA:Str→Option Value):Prop where
  obj:h.get? x = some (PySem.W.instObj C dx)
  ns:h.Ns1 dx mA
  ne:dx≠x

theorem lookIn_ns {h:Heap} {dx:Addr} {mA:Str→Option Value} (n:h.Ns1 dx mA):∃ od,h.get? dx = some od∧∀ name,PySem.W.lookIn name od = some (mA name):=by
  obtain ⟨o,es,ep,ho,hd,hk,_,hm⟩:=n
  refine ⟨o,ho,fun name=>?_⟩
  have e:=hm name
  unfold nsFind findBy at e
  rw [← Array.find?_toList] at e
  unfold PySem.W.lookIn
  rw [hd]
  dsimp only
  split
  · rename_i y q
    rw [q] at e
    exact congrArg some e
  · rename_i q
    rw [q] at e
    have a:es.toList.any (·.refKey) = false:=by
      rw [List.any_eq_false]
      intro y hy
      obtain ⟨z,t,hkey⟩:=hk y (Array.mem_toList_iff.mp hy)
      simp [DictEntry.refKey,hkey]
    have a':¬ es.toList.any (·.refKey) = true:=by rw [a]; exact Bool.false_ne_true
    rw [if_neg a']
    exact congrArg some e

theorem ObjM.look {h:Heap} {x dx C:Addr} {mA:Str→Option Value} (I:ObjM h x dx C mA):∃ od,PySem.W.InstAt h x (PySem.W.instObj C dx) C (some od)∧∀ name,PySem.W.lookIn name od = some (mA name) :=
  let ⟨od,ho,hl⟩:=lookIn_ns I.ns
  ⟨od,⟨I.obj,rfl,rfl,ho⟩,hl⟩

section
variable {prog:Program} {w:World} {A:Around} {E:Value→Shared→Prop} {s:Shared} {K:PySem.W.Frag} {x dx C f:Addr} {mA:Str→Option Value} {name:Str} {v:Value}

end

theorem RelO.some_of {v:V} {o:Option Value} (r:RelO (some v) o):∃ u,o = some u∧RelV v u:=by
  cases o with
  | none=>exact (show False from r).elim
  | some u=>exact ⟨u,rfl,r⟩
section
variable {P:Program} {w:World} {H H':Hp} {h h':Heap} {a C dx:Addr} {fs fs':List (Str×V)}
theorem ins_get (hok:HOk P w H h) (e:H a = some (.ins C dx fs)):∃ mA,ObjM h a dx C mA∧(∀ f,RelO (fs.lookup f) (mA f))∧PySem.Within mA (fs.map (·.1))∧fs.length≤1000∧H dx = some (.own a):=by
  obtain ⟨d,z,ne,ob,mA,n,r,q⟩:=(show ObjOk P w H h a (.ins C dx fs) from hok a _ e)
  exact ⟨mA,⟨ob,n,ne⟩,r,q,z,d⟩
end

structure Cls (K:PySem.W.Frag) (C:Addr):Prop where
  pg:PySem.W.plainGet K C Str.empty = true
  hd:PySem.W.hasDictIn K C = true
  po:PySem.W.plainOver K C = true
  sa:PySem.W.findIn K (.ref C) "__setattr__" = some (some (.builtin "object.__setattr__"))
theorem Cls.get {K:PySem.W.Frag} {C:Addr} (c:Cls K C) (f:Str):PySem.W.plainGet K C f = true:=c.pg
section
variable {X:Cx} {pins:List (Addr×Obj)} {σ:St} {H:Hp} {s:Shared} {a C dx:Addr} {fs:List (Str×V)} {f:Str} {v:V} {A:Around} {E:Value→Shared→Prop}

theorem Inv.made (I:Inv X pins σ H s):Inv X pins σ (upd (upd H s.heap.objs.size (.own (s.heap.objs.size+1))) (s.heap.objs.size+1) (.ins C s.heap.objs.size []))
    { s with heap:=(s.heap.push PySem.W.emptyDict).push (PySem.W.instObj C s.heap.objs.size) }:=by
  have e1:(s.heap.push PySem.W.emptyDict).get? s.heap.objs.size = some PySem.W.emptyDict:=Heap.get?_push_size s.heap rfl
  have e2:((s.heap.push PySem.W.emptyDict).push (PySem.W.instObj C s.heap.objs.size)).get? (s.heap.objs.size+1) = some (PySem.W.instObj C s.heap.objs.size):=by
    have:=Heap.get?_push_size (s.heap.push PySem.W.emptyDict) (o:=PySem.W.instObj C s.heap.objs.size) rfl
    rwa [Heap.size_push] at this
  have e3:(s.heap.push PySem.W.emptyDict).Ns s.heap.objs.size (fun _=>none):=⟨PySem.W.emptyDict,#[],_,e1,rfl,(fun e he=>absurd he (by simp)),fun _=>rfl⟩
  have I1:=I.laid (a:=s.heap.objs.size) (o:=.own (s.heap.objs.size+1)) (h':=s.heap.push PySem.W.emptyDict) (t':=s.toks) (fun b u q=>Heap.get?_push_of_some _ q) (Nat.le_refl _) ⟨_,e1⟩
  refine I1.laid (a:=s.heap.objs.size+1) (o:=.ins C s.heap.objs.size []) (t':=s.toks) (fun b u q=>Heap.get?_push_of_some _ q) (Nat.le_of_eq (Heap.size_push _ _)) ?_
  have ne:s.heap.objs.size≠s.heap.objs.size+1:=Nat.ne_of_lt (Nat.lt_succ_self _)
  refine ⟨by rw [upd_ne ne,upd_same],Nat.zero_le _,ne,e2,fun _=>none,(Heap.Ns1.of_empty e3).at fun o q=>Heap.get?_push_of_some _ q,fun _=>True.intro,fun y hy=>absurd rfl hy⟩

end

section
variable {X:Cx} {o e value:Expr} {f:Str} {pos pos' tpos:Pos} {ta tv:TE}
end

section
variable {X:Cx} {pins:List (Addr×Obj)} {σ:St} {H:Hp} {s:Shared} {A:Around} {E:Value→Shared→Prop} {Q:Value→Shared→Prop} {c:Value} {b:Bool}
inductive TyOf (K:PySem.W.Frag) (H:Hp):V→Value→Prop where
  | non:TyOf K H .non (.type "NoneType")
  | bl (x:Bool):TyOf K H (.bl x) (.type "bool")
  | int (i:Int):TyOf K H (.int i) (.type "int")
  | str (x:Str):TyOf K H (.str x) (.type "str")
  | flt (x:UInt64):TyOf K H (.flt x) (.type "float")
  | lst {a:Addr} {xs:List V} (e:H a = some (.lst xs)):TyOf K H (.ref a) (.type "list")
  | frz {a:Addr} {o:Obj} {xs:List V} (e:H a = some (.frz o (.lst xs))):TyOf K H (.ref a) (.type "list")
  | tup {a:Addr} {xs:List V} (e:H a = some (.tup xs)):TyOf K H (.ref a) (.type "tuple")
  | dK {a:Addr} {kvs:List (Key×V)} (e:H a = some (.dK kvs)):TyOf K H (.ref a) (.type "dict")
  | dT {a:Addr} {kvs:List (List Key×V)} (e:H a = some (.dT kvs)):TyOf K H (.ref a) (.type "dict")
  | ins {a C dx:Addr} {fs:List (Str×V)} (e:H a = some (.ins C dx fs)) (cl:Cls K C) (ha:PySem.W.findIn K (.ref C) "__class__" = some (some (.builtin "object.__class__")))
      (hn:PySem.W.specialIn K (.builtin "object.__class__") "__get__" = some (some (.builtin "getset_descriptor.__get__"))) (htk:PySem.W.takesIn K (.builtin "object.__class__") = some true)
      (hm:PySem.W.mroIn K C (.type "object") = some true):TyOf K H (.ref a) (.ref C)
theorem isinst_ok {x:V} {u t:Value} (I:Inv X pins σ H s) (rx:RelV x u) (ty:TyOf X.K H x t) (e:PySem.W.kitOne X.K t c = some b) (h:∀ tk,Q (.bool b) { s with toks:=tk }) :
    wpAny (model X.prog X.w) A (call (.builtin "isinstance") [u,c]) Q E s:=by
  cases ty with
  | non=>cases (show u = Value.none from rx); exact PySem.W.kia_one PySem.W.kitx_none I.kIn True.intro e (fun z=>nomatch z) h
  | bl y=>cases (show u = Value.bool y from rx); exact PySem.W.kia_one PySem.W.kitx_bool I.kIn True.intro e (fun z=>nomatch z) h
  | int i=>obtain ⟨t,q⟩:=(show ∃ t,u = Value.int i t from rx); cases q; exact PySem.W.kia_one PySem.W.kitx_int I.kIn True.intro e (fun z=>nomatch z) h
  | str y=>obtain ⟨t,q⟩:=(show ∃ t,u = Value.str y t from rx); cases q; exact PySem.W.kia_one PySem.W.kitx_str I.kIn True.intro e (fun z=>nomatch z) h
  | flt y=>obtain ⟨t,q⟩:=(show ∃ t,u = Value.float y t from rx); cases q; exact PySem.W.kia_one PySem.W.kitx_float I.kIn True.intro e (fun z=>nomatch z) h
  | @lst a xs ea =>
    cases (show u = Value.ref a from rx)
    obtain ⟨_,_,n,_,h1⟩:=(show ObjOk X.prog X.w H s.heap a (.lst xs) from I.hok a _ ea)
    exact PySem.W.kia_one PySem.W.kitx_list I.kIn ⟨_,h1,rfl⟩ e (fun z=>nomatch z) h
  | @frz a ob xs ea =>
    cases (show u = Value.ref a from rx)
    obtain ⟨_,_,_,n,_,h1⟩:=(show ObjOk X.prog X.w H s.heap a (.frz ob (.lst xs)) from I.hok a _ ea)
    exact PySem.W.kia_one PySem.W.kitx_list I.kIn ⟨_,h1,rfl⟩ e (fun z=>nomatch z) h
  | @tup a xs ea =>
    cases (show u = Value.ref a from rx)
    obtain ⟨_,_,_,p⟩:=(show ObjOk X.prog X.w H s.heap a (.tup xs) from I.hok a _ ea)
    obtain ⟨o,h1,h2,_⟩:=p
    exact PySem.W.kia_one PySem.W.kitx_tuple I.kIn ⟨o,h1,h2⟩ e (fun z=>nomatch z) h
  | @dK a kvs ea =>
    cases (show u = Value.ref a from rx)
    obtain ⟨_,_,vs,_,p⟩:=(show ObjOk X.prog X.w H s.heap a (.dK kvs) from I.hok a _ ea)
    obtain ⟨o,es,ep,h1,h2,_⟩:=p
    exact PySem.W.kia_one PySem.W.kitx_dict I.kIn ⟨o,h1,h2.1⟩ e (fun z=>nomatch z) h
  | @dT a kvs ea =>
    cases (show u = Value.ref a from rx)
    obtain ⟨_,_,xs,_,o,es,ep,h1,h2,_⟩:=(show ObjOk X.prog X.w H s.heap a (.dT kvs) from I.hok a _ ea)
    exact PySem.W.kia_one PySem.W.kitx_dict I.kIn ⟨o,h1,h2.1⟩ e (fun z=>nomatch z) h
  | @ins a C dx fs ea cl ha hn htk hm =>
    cases (show u = Value.ref a from rx)
    obtain ⟨mA,O,_⟩:=ins_get I.hok ea
    obtain ⟨od,J,_⟩:=O.look
    exact PySem.W.kia_one (PySem.W.kitx_own (cl.get _) cl.hd ha hn htk hm) I.kIn J e (fun z=>nomatch z) h
end
end L2

namespace L2
open PySem PySem.Spec PyProof.Rows

structure Room (k:Nat) (A:Around):Prop where
  hd:A.handled = none
  dp:A.depth+3*k+5 < recursionLimit
  un:A.units+16*k+200 < cLine
theorem Room.mono {j k:Nat} {A:Around} (r:Room k A) (h:j≤k):Room j A:=⟨r.hd,by have:=r.dp; omega,by have:=r.un; omega⟩
theorem Room.deeper {k:Nat} {A:Around} (r:Room (k+1) A) (env:Env):Room k (A.deeper env) :=
  ⟨r.hd,by have:=r.dp; show A.depth+1+3*k+5 < _; omega,by have:=r.un; show A.units+3+16*k+200 < _; omega⟩
theorem Room.in1 {k:Nat} {A:Around} (r:Room (k+1) A):Room k A.in1 :=
  ⟨r.hd,by have:=r.dp; show A.depth+3*k+5 < _; omega,by have:=r.un; show A.units+1+16*k+200 < _; omega⟩
theorem Room.depth {k:Nat} {A:Around} (r:Room k A):A.depth < recursionLimit:=by have:=r.dp; omega
theorem Room.units {k:Nat} {A:Around} (r:Room k A):A.units+64 < cLine:=by have:=r.un; omega
def tNil:TA:=fun _ H Q=>Q [] H
def tCons (ta:TE) (tr:TA):TA:=fun σ H Q=>ta σ H fun x H1=>tr σ H1 fun xs H2=>Q (x::xs) H2
section
variable {X:Cx} {e:Expr} {es:List Expr} {te:TE} {t:TA} {pos:Pos}
theorem pa_nil:PA X [] tNil:=fun _ _ _ _ H Q I h=>Calls.spliced_nil ⟨[],H,I,.nil,h⟩
theorem pa_cons (ha:PE X e te) (hr:PA X es t) (hs:starEach (e::es) X.env = (false,eval e X.env)::starEach es X.env:=by rfl):PA X (e::es) (tCons te t):=by
  intro pos pins s σ H Q I h
  rw [hs]
  show wpAny _ _ (spliced ((false,eval e X.env)::backTo pos (starEach es X.env))) _ _ s
  refine Calls.spliced_cons (thn (ha pins s σ H _ I h) fun u s1 ⟨x,H1,I1,r1,q1⟩=>?_)
  exact thn (hr pos pins s1 σ H1 _ I1 q1) fun us s2 ⟨xs,H2,I2,r2,q2⟩=>⟨x::xs,H2,I2,.cons r1 r2,q2⟩

def tTup (t:TA):TE:=fun σ H Q=>t σ H fun xs H1=>xs.length≤sizeLine∧∀ p,H1 p = none→Q (.ref p) (upd H1 p (.tup xs))
def tLst (t:TA):TE:=fun σ H Q=>t σ H fun xs H1=>xs.length≤sizeLine∧∀ p,H1 p = none→Q (.ref p) (upd H1 p (.lst xs))
theorem pe_tup {x1} (h:PA X es t):PE X (.Tuple es x1 pos) (tTup t):=by
  intro pins s σ H Q I hq
  refine wpAny_Tuple_spliced (thn (h pos pins s σ H _ I hq) fun us s1 ⟨xs,H1,I1,r,z,q⟩=>⟨by rw [← r.length]; exact z,?_⟩)
  have hf:H1 s1.heap.objs.size = none:=I1.hok.fresh (Nat.le_refl _)
  refine ⟨.ref s1.heap.objs.size,upd H1 s1.heap.objs.size (.tup xs),I1.laid (t':=s1.toks) (fun b u e=>Heap.get?_push_of_some _ e) (Nat.le_refl _) ?_,rfl,q _ hf⟩
  exact ⟨z,us,r,⟨_,Heap.get?_push_size _ rfl,rfl,_,rfl⟩⟩
theorem pe_lst (h:PA X es t):PE X (.List es pos) (tLst t):=by
  intro pins s σ H Q I hq
  refine wpAny_List_spliced (thn (h pos pins s σ H _ I hq) fun us s1 ⟨xs,H1,I1,r,z,q⟩=>⟨by rw [← r.length]; exact z,?_⟩)
  have hf:H1 s1.heap.objs.size = none:=I1.hok.fresh (Nat.le_refl _)
  refine ⟨.ref s1.heap.objs.size,upd H1 s1.heap.objs.size (.lst xs),I1.laid (t':=s1.toks) (fun b u e=>Heap.get?_push_of_some _ e) (Nat.le_refl _) ?_,rfl,q _ hf⟩
  exact ⟨z,us,0,r,Heap.get?_push_size _ rfl⟩
end

abbrev Sp:=List V→Hp→VK→XK→Prop
abbrev CXT:=List Env→Hp→Shared→XK→Value→Shared→Prop

structure Env0 (P:Program) (w:World) (K:PySem.W.Frag) (mg:Str→Option Value) (base:Heap) (A:Around) (outer:List Env) (s:Shared) (H:Hp):Prop where
  frames:A.frames = some outer
  mod:Mod K mg base
  bs:∀ b o,base.get? b = some o→s.heap.get? b = some o∧H b = none
  bsz:base.objs.size≤s.heap.objs.size
  funs:s.heap.FunFrames base outer
  frf:∀ b∈frs outer,H b = none
  hok:HOk P w H s.heap
  bare:AllBare s.gens
def CE (outer:List Env) (P:Program) (w:World) (H:Hp) (s:Shared) (Q:VK) (u:Value) (s':Shared):Prop :=
  ∃ v H',s'.os = s.os∧AllBare s'.gens∧Un (frs outer) [] H H' s.heap s'.heap∧HOk P w H' s'.heap∧RelV v u∧Q v H'
def CR (CX:CXT) (outer:List Env) (P:Program) (w:World) (H:Hp) (s:Shared) (Q:VK) (E:XK) (r:Result) (s':Shared):Prop :=
  match r with
  | .ok (.ret u)=>CE outer P w H s Q u s'
  | .ok _=>False
  | .error e=>CX outer H s E e s'
structure FnOk (P:Program) (w:World) (K:PySem.W.Frag) (mg:Str→Option Value) (base:Heap) (CX:CXT) (k:Nat) (f:Addr) (fd:FuncData) (ps:List Str) (sp:Sp):Prop where
  len:∀ vs H Q E,sp vs H Q E→vs.length = ps.length
  run:∀ (A:Around) (outer:List Env) (s:Shared) (H:Hp) (args:Args) (us:List Value) (vs:List V) (Q:VK) (E:XK),Room k A→Env0 P w K mg base A outer s H→BindsTo s fd args (ps.zip us)→Vals vs us→sp vs H Q E →
    codeAny (model P w) A (.call (.ref f) args) (CR CX outer P w H s Q E) s
theorem FnOk.mono {P:Program} {w:World} {K:PySem.W.Frag} {mg:Str→Option Value} {base:Heap} {CX:CXT} {j k:Nat} {f:Addr} {fd:FuncData} {ps:List Str} {sp:Sp} (F:FnOk P w K mg base CX j f fd ps sp) (h:j≤k) :
    FnOk P w K mg base CX k f fd ps sp:=⟨F.len,fun A outer s H args us vs Q E hr=>F.run A outer s H args us vs Q E (hr.mono h)⟩
theorem FnOk.imp {P:Program} {w:World} {K:PySem.W.Frag} {mg:Str→Option Value} {base:Heap} {CX:CXT} {k:Nat} {f:Addr} {fd:FuncData} {ps:List Str} {sp sp':Sp} (F:FnOk P w K mg base CX k f fd ps sp)
    (h:∀ vs H Q E,sp' vs H Q E→sp vs H Q E):FnOk P w K mg base CX k f fd ps sp' :=
  ⟨fun vs H Q E q=>F.len vs H Q E (h _ _ _ _ q),fun A outer s H args us vs Q E hr he hb hv hs=>F.run A outer s H args us vs Q E hr he hb hv (h _ _ _ _ hs)⟩

theorem Env0.in1 {P:Program} {w:World} {K:PySem.W.Frag} {mg:Str→Option Value} {base:Heap} {A:Around} {outer:List Env} {s:Shared} {H:Hp} (e:Env0 P w K mg base A outer s H) :
    Env0 P w K mg base A.in1 outer s H:=⟨e.frames,e.mod,e.bs,e.bsz,e.funs,e.frf,e.hok,e.bare⟩

section
variable {X:Cx} {pins:List (Addr×Obj)} {σ:St} {H:Hp} {s s':Shared}
theorem Inv.env0 (I:Inv X pins σ H s):Env0 X.prog X.w X.K X.mg X.base X.A X.stack s H :=
  ⟨I.ok.frames,I.ok.mod,I.bs,Nat.le_trans I.ok.bsz I.sz,I.stack,I.stkFree,I.hok,I.bare⟩
theorem Inv.after {Q:VK} {u:Value} (I:Inv X pins σ H s) (h:CE X.stack X.prog X.w H s Q u s'):EP X pins σ Q u s':=by
  obtain ⟨v,H',os,bare,un,hok,r,q⟩:=h
  obtain ⟨hh,g,d,t,os'⟩:=s'
  obtain rfl:os' = s.os:=os
  exact ⟨v,H',I.call (h':=hh) (g':=g) (d':=d) (t':=t) (ch:=[]) un hok bare (fun b z=>absurd z (by simp)),r,q⟩
end

def tCall (sp:Sp) (dvs:List V) (E:XK) (t:TA):TE:=fun σ H Q=>t σ H fun vs H1=>sp (vs++dvs) H1 Q E
def Binds (K:PySem.W.Frag) (fd:FuncData) (ps:List Str) (ds:List Value):Prop :=
  ∀ (s:Shared) (us:List Value),K.In s.heap→(us++ds).length = ps.length→BindsTo s fd ⟨us,[]⟩ (ps.zip (us++ds))
theorem Binds.all {K:PySem.W.Frag} {fd:FuncData} {ps:List Str} (h:∀ us:List Value,us.length = ps.length→bindArgs fd ⟨us,[]⟩ = pure (ps.zip us)):Binds K fd ps []:=fun s us _ hl=>by
  rw [List.append_nil] at hl ⊢
  exact .of_eq (h us hl)

def Passes (CX:CXT) (X:Cx) (E:XK):Prop:=∀ (pins:List (Addr×Obj)) (σ:St) (H:Hp) (s:Shared) (e:Value) (s':Shared),Inv X pins σ H s→CX X.stack H s E e s'→X.xe e s'

section
variable {X:Cx} {CX:CXT} {k:Nat} {f C:Addr} {fd:FuncData} {ps:List Str} {sp:Sp} {dvs:List V} {ds:List Value} {E:XK} {x m:Str} {p pos apos:Pos} {e o:Expr} {es:List Expr} {ta:TE} {t:TA}

theorem run_fn {pins:List (Addr×Obj)} {σ:St} {H:Hp} {s:Shared} {Q:VK} {us:List Value} {vs:List V} (F:FnOk X.prog X.w X.K X.mg X.base CX k f fd ps sp) (hr:Room k X.A) (hb:Binds X.K fd ps ds) (hd:Vals dvs ds) (hx:Passes CX X E)
    (I:Inv X pins σ H s) (r:Vals vs us) (h:sp (vs++dvs) H Q E):wpAny (model X.prog X.w) X.A (call (.ref f) us) (EP X pins σ Q) X.xe s:=by
  have r2:Vals (vs++dvs) (us++ds):=r.append hd
  have hl:(us++ds).length = ps.length:=by rw [← r2.length]; exact F.len _ _ _ _ h
  refine wpAny_call (codeAny_mono (F.run X.A X.stack s H ⟨us,[]⟩ (us++ds) (vs++dvs) Q E hr I.env0 (hb s us I.kIn hl) r2 h) fun r s' hq=>?_)
  cases r with
  | error e=>exact hx pins σ H s e s' I hq
  | ok fl =>
    cases fl with
    | ret u=>exact I.after hq
    | next=>exact False.elim hq
    | brk=>exact False.elim hq
    | cont=>exact False.elim hq

theorem pe_call (F:FnOk X.prog X.w X.K X.mg X.base CX k f fd ps sp) (hr:Room k X.A) (hg:Gl X x) (hm:X.mg x = some (.ref f)) (hk:PySem.W.keepIn X.K (.ref f) = true) (hb:Binds X.K fd ps ds) (hd:Vals dvs ds) (hx:Passes CX X E)
    (ha:PA X (e::es) t) (hdb:(x == ("__debug__":Str)) = false:=by decide) (he:starEach (e::es) X.env = (false,eval e X.env)::starEach es X.env:=by rfl) (hpl:(backTo pos (starEach es X.env)).any (·.1) = false:=by rfl) :
    PE X (.Call (.Name x p) (e::es) [] pos) (tCall sp dvs E t):=by
  intro pins s σ H Q I h
  refine wpAny_Call_Name_kw (ld_glob I hg hm ?_ hdb)
  refine PySem.W.callWith_K (h₀:=X.base) I.ok.mod.kin hk (thn (ha pos pins s σ H _ I h) fun us s1 ⟨vs,H1,I1,r,q⟩=>⟨I1.kIn,?_⟩) he hpl
  exact run_fn F hr hb hd hx I1 r q
end

section
variable {X:Cx} {CX:CXT} {k:Nat} {f C:Addr} {fd:FuncData} {ps ks:List Str} {sp:Sp} {E:XK} {x m:Str} {p pos apos kpos:Pos} {e o:Expr} {es:List Expr} {kws:List Keyword} {te ta:TE} {t tk:TA} {nm:Option Str}
variable {g:List Value→List Value→List Value} {gV:List V→List V→List V}
end

structure FnScope (N P:List Str) (sc:Scope):Prop where
  kind:sc.kind = .function
  co:sc.isCoroutine = false
  gen:sc.isGenerator = false
  nd:N.Nodup
  pre:N.take P.length = P
  par:∀ x∈P,sc.names.lookup x = some .local∨sc.names.lookup x = some .cell
  nofree:∀ y∈sc.names,y.2≠.free

theorem bindL_out {kindOf:Str→Option NameKind} {x:Str}:∀ {binds:List (Str×Value)} {m:Str→Option Value},(∀ v,(x,v)∉binds)→bindL kindOf binds m x = m x
  | [],_,_=>rfl
  | (n,v)::r,m,h=>by
    unfold bindL
    rw [bindL_out fun w hw=>h w (List.mem_cons_of_mem _ hw)]
    split
    · have:x≠n:=by rintro rfl; exact h v List.mem_cons_self
      simp [this]
    · rfl
theorem bindC_out {kindOf:Str→Option NameKind} {x:Str}:∀ {binds:List (Str×Value)} {m:Str→Option Value},(∀ v,(x,v)∉binds)→bindC kindOf binds m x = m x
  | [],_,_=>rfl
  | (n,v)::r,m,h=>by
    unfold bindC
    rw [bindC_out fun w hw=>h w (List.mem_cons_of_mem _ hw)]
    split
    · rfl
    · have:x≠n:=by rintro rfl; exact h v List.mem_cons_self
      simp [this]
theorem bindL_get {kindOf:Str→Option NameKind} {x:Str} {v:Value}:∀ {P:List Str} {vs:List Value} {i:Nat} {m:Str→Option Value},P.Nodup→P[i]? = some x→vs[i]? = some v→kindOf x = some .local →
    bindL kindOf (P.zip vs) m x = some v
  | [],_,_,_,_,h,_,_=>by simp at h
  | _::_,[],_,_,_,_,h,_=>by simp at h
  | p::P,w::vs,0,m,nd,h1,h2,hk=>by
    simp at h1 h2; subst h1; subst h2
    show bindL kindOf ((p,w)::P.zip vs) m p = _
    unfold bindL
    rw [bindL_out fun v hv=>(List.nodup_cons.mp nd).1 (List.of_mem_zip hv).1,if_pos hk]
    simp
  | p::P,w::vs,i+1,m,nd,h1,h2,hk=>by
    show bindL kindOf ((p,w)::P.zip vs) m x = _
    unfold bindL
    exact bindL_get (i:=i) (List.nodup_cons.mp nd).2 (by simpa using h1) (by simpa using h2) hk
theorem bindC_get {kindOf:Str→Option NameKind} {x:Str} {v:Value}:∀ {P:List Str} {vs:List Value} {i:Nat} {m:Str→Option Value},P.Nodup→P[i]? = some x→vs[i]? = some v→kindOf x≠some .local →
    bindC kindOf (P.zip vs) m x = some v
  | [],_,_,_,_,h,_,_=>by simp at h
  | _::_,[],_,_,_,_,h,_=>by simp at h
  | p::P,w::vs,0,m,nd,h1,h2,hk=>by
    simp at h1 h2; subst h1; subst h2
    show bindC kindOf ((p,w)::P.zip vs) m p = _
    unfold bindC
    rw [bindC_out fun v hv=>(List.nodup_cons.mp nd).1 (List.of_mem_zip hv).1,if_neg hk]
    simp
  | p::P,w::vs,i+1,m,nd,h1,h2,hk=>by
    show bindC kindOf ((p,w)::P.zip vs) m x = _
    unfold bindC
    exact bindC_get (i:=i) (List.nodup_cons.mp nd).2 (by simpa using h1) (by simpa using h2) hk

def start (N:List Str) (vs:List V):St:=vs.map some++List.replicate (N.length - vs.length) none

def cxOf (CX:CXT) (P:Program) (w:World) (K:PySem.W.Frag) (mg:Str→Option Value) (base:Heap) (N:List Str) (qual:Str) (scope:Scope) (f:Addr) (cd:Value) (A:Around) (outer:List Env) (s:Shared) (H:Hp) (E:XK):Cx where
  prog:=P
  w:=w
  K:=K
  mg:=mg
  base:=base
  A:=A.deeper (envOfC qual scope s.heap.objs.size f cd)
  N:=N
  s₀:=s
  H₀:=H
  env:=envOfC qual scope s.heap.objs.size f cd
  outer:=outer
  stack:=envOfC qual scope s.heap.objs.size f cd::outer
  ex:=[]
  calm:=true
  fn:=fun _=>true
  pn:=[]
  xe:=fun e s'=>wpAny (model P w) (A.deeper (envOfC qual scope s.heap.objs.size f cd)) (leaving (envOfC qual scope s.heap.objs.size f cd) e) (fun _ s''=>CX outer H s E e s'') (fun e' s''=>CX outer H s E e' s'') s'

theorem cell_has {sc:Scope} {n:Nat} {x:Str} (h:sc.names.lookup x = some .cell):∃ c,(cellsFrom n sc.names []).lookup x = some c:=by
  have q:=PySem.W.cellsFrom_some sc.names n [] (.inl h)
  exact Option.isSome_iff_exists.mp q

theorem inv_start {CX:CXT} {P:Program} {w:World} {K:PySem.W.Frag} {mg:Str→Option Value} {base:Heap} {N ps:List Str} {qual:Str} {scope:Scope} {f:Addr} {cd:Value} {A:Around} {outer:List Env} {s s1:Shared} {H:Hp} {E:XK} {us:List Value} {vs:List V}
    (S:FnScope N ps scope) (hd:A.handled = none) (e0:Env0 P w K mg base A outer s H) (hl:vs.length = ps.length) (r:Vals vs us)
    (x:InCallC s s.heap.objs.size (bindL (envOfC qual scope s.heap.objs.size f cd).kindOf (ps.zip us) fun _=>none) (cellsFrom (s.heap.objs.size+1) scope.names []) (bindC (envOfC qual scope s.heap.objs.size f cd).kindOf (ps.zip us) fun _=>none) s1) :
    Inv (cxOf CX P w K mg base N qual scope f cd A outer s H E) [] (start N vs) H s1:=by
  have hpl:ps.length≤N.length:=by have:=congrArg List.length S.pre; rw [List.length_take] at this; omega
  obtain ⟨h1,tk,rfl,hk⟩:=x.done
  have noA:∀ b:Addr,b∉(cxOf CX P w K mg base N qual scope f cd A outer s H E).ex:=fun b z=>absurd (show b∈([]:List Addr) from z) (by simp)
  refine ⟨⟨e0.mod,S.kind,rfl,rfl,Nat.le_refl _,fun y z c h1 h2=>?_,fun y hy=>?_,fun y c _ h=>?_,fun _=>hd,Around.frames_deeper e0.frames,.inr ⟨rfl,rfl⟩,fun b z=>absurd z (noA b),e0.bs,e0.bsz,fun b _ _=>noA b,fun b z=>absurd z (noA b),e0.funs,e0.frf⟩,
    rfl,e0.bare,Un.kept hk,⟨_,x.toInCall.ns,fun i y v h1 h2 h3=>?_⟩,fun y c h=>⟨_,x.cell y c h⟩,e0.hok.fresh (Nat.le_refl _),fun y c h=>?_,fun p hp=>absurd (show p∈([]:List (Addr×Obj)) from hp) (by simp),e0.hok.kept hk,?_⟩
  · exact name_of_addr x.apart (PySem.mem_of_lookup h1) (PySem.mem_of_lookup h2)
  · have hy:scope.names.lookup y = some .cell∨scope.names.lookup y = some .free:=hy
    rcases hy with hy | hy
    · exact cell_has hy
    · exact absurd rfl (S.nofree _ (PySem.mem_of_lookup hy))
  · exact Nat.le_of_lt (x.above y c (PySem.mem_of_lookup h))
  · have hi:i < vs.length:=by
      unfold start at h2
      by_cases hi:i < vs.length
      · exact hi
      · rw [List.getElem?_append_right (by simpa using hi)] at h2
        rw [List.getElem?_replicate] at h2
        split at h2<;>cases h2
    have ha:vs[i]? = some v:=by
      unfold start at h2
      rw [List.getElem?_append_left (by simpa using hi),List.getElem?_map] at h2
      cases e:vs[i]? with
      | none=>rw [e] at h2; cases h2
      | some a=>rw [e] at h2; cases h2; rfl
    obtain ⟨u,hu,rv⟩:=r.get ha
    have hp:ps[i]? = some y:=by
      rw [← S.pre,List.getElem?_take_of_lt (by omega)]; exact h1
    have ndP:ps.Nodup:=by rw [← S.pre]; exact S.nd.sublist (List.take_sublist _ _)
    refine ⟨u,rv,?_⟩
    rcases S.par y (List.mem_of_getElem? hp) with k | k
    · exact .inl ⟨k,bindL_get ndP hp hu k⟩
    · obtain ⟨c,e⟩:=cell_has (n:=s.heap.objs.size+1) k
      refine .inr ⟨.inl k,c,e,?_⟩
      have q:=x.cell y c e
      rw [bindC_get ndP hp hu (by show scope.names.lookup y≠_; rw [k]; decide)] at q
      exact q
  · exact e0.hok.fresh (Nat.le_of_lt (x.above y c (PySem.mem_of_lookup h)))
  · unfold start
    show _ = N.length
    rw [List.length_append,List.length_map,List.length_replicate]
    omega

theorem fn_of {CX:CXT} {P:Program} {w:World} {K:PySem.W.Frag} {mg:Str→Option Value} {base:Heap} {k:Nat} {f:Addr} {name qual:Str} {params:Arguments} {body:List Stmt} {scope:Scope} {dV kV doc pm cdv ct oc:Value} {an od:Option Addr}
    {osl:Array (Option Value)} {N ps:List Str} {sp:Sp} (lk:K.lookup f = some ⟨oc,od,.func (PySem.W.fnOf name qual params body scope dV kV doc pm an cdv ct),osl⟩) (hcd:PySem.W.codeIn K cdv qual = true) (S:FnScope N ps scope)
    (len:∀ vs H Q E,sp vs H Q E→vs.length = ps.length)
    (hbody:∀ (A:Around) (outer:List Env) (s:Shared) (H:Hp) (vs:List V) (Q:VK) (E:XK),Room k (A.deeper (envOfC qual scope s.heap.objs.size f cdv))→sp vs H Q E →
      ∃ t,PSs (cxOf CX P w K mg base N qual scope f cdv A outer s H E) body t∧t { nx:=fun _ H'=>Q .non H',rt:=Q } (start N vs) H) :
    FnOk P w K mg base CX (k+1) f (PySem.W.fnOf name qual params body scope dV kV doc pm an cdv ct) ps sp:=by
  refine ⟨len,fun A outer s H args us vs Q E hr e0 hb r hsp=>?_⟩
  have hl:=len _ _ _ _ hsp
  have KX:K.In s.heap:=e0.mod.kin.keeps fun b o e=>(e0.bs b o e).1
  have lim:s.heap.NoLimit:=e0.mod.nolimit.keeps fun b o e=>(e0.bs b o e).1
  have hkind:∀ y∈ps.zip us,scope.names.lookup y.1 = some .local∨(scope.names.lookup y.1 = some .cell∧((cellsFrom (s.heap.objs.size+1) scope.names []).lookup y.1).isSome = true):=fun ⟨n,v⟩ hy=>by
    rcases S.par n (List.of_mem_zip hy).1 with q | q
    · exact .inl q
    · exact .inr ⟨q,PySem.W.cellsFrom_some _ _ _ (.inl q)⟩
  refine codeAny_call_function hr.depth (KX _ _ lk) rfl S.co S.gen rfl (PySem.W.codeRec_of KX hcd) (hb _ _ _ _ ?_)
  refine wpAny_newFunctionEnv_cells S.kind hkind fun env he s1 x=>?_
  subst he
  refine ⟨lim.keeps x.toInCall.keep,codeAny_func ?_⟩
  obtain ⟨t,ht,hq⟩:=hbody A outer s H vs Q E (hr.deeper _) hsp
  have I:Inv (cxOf CX P w K mg base N qual scope f cdv A outer s H E) [] (start N vs) H s1:=inv_start S hr.hd e0 hl r x
  refine wpAny_mono (ht [] s1 (start N vs) H _ I hq) (fun fl s' hs=>?_) fun e s' hs=>hs
  have fin:∀ {σ':St} {H':Hp} {v:V} {u:Value},Inv (cxOf CX P w K mg base N qual scope f cdv A outer s H E) [] σ' H' s'→RelV v u→Q v H'→CE outer P w H s Q u s' :=
    fun {σ' H' v u} J rv q=>⟨v,H',J.os,J.bare,J.base,J.hok,rv,q⟩
  cases fl with
  | ret u =>
    obtain ⟨v,σ',H',J,rv,q⟩:=hs
    exact fin J rv q
  | next =>
    obtain ⟨σ',H',J,q⟩:=hs
    exact fin (v:=V.non) (u:=Value.none) J rfl q
  | brk =>
    obtain ⟨_,_,_,q⟩:=hs
    exact False.elim q
  | cont =>
    obtain ⟨_,_,_,q⟩:=hs
    exact False.elim q
end L2

namespace L2
open PySem PySem.Spec PyProof.Rows
section
variable {X:Cx} {x:Str} {p pos:Pos} {e:Expr} {es:List Expr} {t:TA} {id T:String} {r:List V→Hp→VK→Prop}

def tCB (r:List V→Hp→VK→Prop) (t:TA):TE:=fun σ H Q=>t σ H fun vs H1=>r vs H1 Q
theorem pe_callB (hc:CallR X (.builtin id) r) (hg:Gl X x) (hm:X.mg x = none) (hv:bootBuiltins x = some (.builtin id)) (ha:PA X (e::es) t) (hn:x≠"__name__":=by decide) (hdb:(x == ("__debug__":Str)) = false:=by decide)
    (he:starEach (e::es) X.env = (false,eval e X.env)::starEach es X.env:=by rfl) (hpl:(backTo pos (starEach es X.env)).any (·.1) = false:=by rfl):PE X (.Call (.Name x p) (e::es) [] pos) (tCB r t):=by
  intro pins s σ H Q I h
  refine wpAny_Call_Name_kw (ld_blt I hg hm hv ?_ hn hdb)
  exact PyProof.Rows.callWith_builtin1 (thn (ha pos pins s σ H _ I h) fun us s1 ⟨vs,H1,I1,r1,q1⟩=>hc pins s1 σ H1 vs us Q I1 r1 q1) he hpl
theorem pe_callTy (hc:CallR X (.type T) r) (hg:Gl X x) (hm:X.mg x = none) (hv:bootBuiltins x = some (.type T)) (ha:PA X (e::es) t) (hn:x≠"__name__":=by decide) (hdb:(x == ("__debug__":Str)) = false:=by decide)
    (he:starEach (e::es) X.env = (false,eval e X.env)::starEach es X.env:=by rfl) (hpl:(backTo pos (starEach es X.env)).any (·.1) = false:=by rfl):PE X (.Call (.Name x p) (e::es) [] pos) (tCB r t):=by
  intro pins s σ H Q I h
  refine wpAny_Call_Name_kw (ld_blt I hg hm hv ?_ hn hdb)
  exact PyProof.Rows.callWith_type1 (thn (ha pos pins s σ H _ I h) fun us s1 ⟨vs,H1,I1,r1,q1⟩=>hc pins s1 σ H1 vs us Q I1 r1 q1) he hpl
end
end L2

namespace HT
open PySem PyProof.Rows

section
open PySem.SeqAt
open PySem.AutoSeq1 (wpAny_loadPart')
open PySem.MeetsSeq PySem.MeetsSeq2 PySem.MeetsSeq3

end

section
variable {prog:Program} {w:World} {A:Around} {E:Value→Shared→Prop} {s:Shared}

def sIx (n d:Nat):Option Int→Nat
  | none=>d
  | some v=>if v < 0 then (v+(n:Int)).toNat else min v.toNat n
theorem sIx_none (n d:Nat):sIx n d none = d:=rfl
theorem sIx_nat (n d k:Nat):sIx n d (some (k:Int)) = min k n:=by
  show (if (k:Int) < 0 then ((k:Int)+(n:Int)).toNat else min (k:Int).toNat n) = min k n
  rw [if_neg (by omega),Int.toNat_natCast]
theorem sIx_le (n d:Nat) (hd:d≤n) (o:Option Int):sIx n d o≤n:=by
  cases o with
  | none=>exact hd
  | some v =>
    show (if v < 0 then (v+(n:Int)).toNat else min v.toNat n)≤n
    by_cases hv:v < 0
    · rw [if_pos hv]; omega
    · rw [if_neg hv]; exact Nat.min_le_right _ _
theorem clip_eq (v:Int) (n d:Nat):(if v < 0 then max (v+(n:Int)) 0 else min v (n:Int)) = ((sIx n d (some v):Nat):Int):=by
  show (if v < 0 then max (v+(n:Int)) 0 else min v (n:Int)) = (((if v < 0 then (v+(n:Int)).toNat else min v.toNat n):Nat):Int)
  by_cases hv:v < 0
  · simp only [if_pos hv]; omega
  · simp only [if_neg hv]; omega
theorem adjust_gen (lo hi:Option Int) (n:Nat):Builtin.Slice.sliceAdjust lo hi 1 (n:Int) = (((sIx n 0 lo:Nat):Int),((sIx n n hi:Nat):Int)):=by
  have h1:¬ ((1:Int) < 0):=by omega
  unfold Builtin.Slice.sliceAdjust
  simp only [h1,if_false]
  refine Prod.ext ?_ ?_
  · cases lo with
    | none=>rfl
    | some v=>exact clip_eq v n 0
  · cases hi with
    | none=>rfl
    | some v=>exact clip_eq v n n
theorem places_gen (i j:Nat):Builtin.Slice.slicePlaces (i:Int) (j:Int) 1 = j - i:=by
  unfold Builtin.Slice.slicePlaces
  have h1:(1:Int) > 0:=by omega
  simp only [h1,if_true,Int.ediv_one]
  split<;>omega
theorem slicePart_ {v:Value} {o:Option Int} {Q:Option Int→Shared→Prop} (p:IsPart v o) (h:Q o s):wpAny (model prog w) A (Builtin.Slice.slicePartIndex v) Q E s:=by
  cases p with
  | none=>exact slicePart_none h
  | int i t=>exact slicePart_int h
theorem sliceApplied_gen {sl:Addr} {vl vu:Value} {lo hi:Option Int} {n:Nat} {Q:Int×Int×Nat→Shared→Prop} (hs:s.heap.IsSliceOf sl vl vu .none) (pl:IsPart vl lo) (pu:IsPart vu hi)
    (h:Q (((sIx n 0 lo:Nat):Int),1,sIx n n hi - sIx n 0 lo) s):wpAny (model prog w) A (Builtin.Slice.sliceApplied (.ref sl) (pure (n:Int))) Q E s:=by
  obtain ⟨os,hos,hcs,hds⟩:=id hs
  unfold Builtin.Slice.sliceApplied Builtin.Slice.sliceFields
  refine wpAny_bind (wpAny_bind (wpAny_field hos hds (x:=vl) rfl (wpAny_bind (wpAny_field hos hds (x:=vu) rfl (wpAny_bind (wpAny_field hos hds (x:=.none) rfl (wpAny_pure ?_)))))))
  refine wpAny_bind (slicePart_none ?_)
  show wpAny _ _ (if ((1:Int) == 0) = true then _ else _) _ _ s
  rw [if_neg (by decide)]
  refine wpAny_bind (slicePart_ pl (wpAny_bind (slicePart_ pu (wpAny_bind (wpAny_pure ?_)))))
  show wpAny _ _ (match Builtin.Slice.sliceAdjust lo hi 1 (n:Int) with | (lo,hi)=>pure (lo,(1:Int),Builtin.Slice.slicePlaces lo hi 1)) _ _ s
  rw [adjust_gen lo hi n]
  show wpAny _ _ (pure (((sIx n 0 lo:Nat):Int),(1:Int),Builtin.Slice.slicePlaces ((sIx n 0 lo:Nat):Int) ((sIx n n hi:Nat):Int) 1)) _ _ s
  rw [places_gen]
  exact wpAny_pure h
theorem pick_gen (xs:Array Value) (i k:Nat):((List.range k).filterMap fun (m:Nat)=>xs[((i:Int)+(m:Int)*1).toNat]?).toArray = ((xs.toList.drop i).take k).toArray:=by
  have e:(fun (m:Nat)=>xs[((i:Int)+(m:Int)*1).toNat]?) = fun m=>xs[i+m]?:=by
    funext m
    have:((i:Int)+(m:Int)*1).toNat = i+m:=by omega
    rw [this]
  rw [e]
  have:=pick_run xs i k
  rw [List.filterMap_map] at this
  have e2:((fun x=>xs[x]?) ∘ fun x=>i+x) = fun m=>xs[i+m]?:=rfl
  rw [e2] at this
  rw [this]

theorem getItem_tuple_cut {t sl:Addr} {items:Array Value} {vl vu:Value} {lo hi:Option Int} {Q:Value→Shared→Prop} (ht:IsTup s.heap t items) (hs:s.heap.IsSliceOf sl vl vu .none) (pl:IsPart vl lo) (pu:IsPart vu hi)
    (hw:¬ (sIx items.size 0 lo = 0∧sIx items.size items.size hi = items.size))
    (h:Q (.ref s.heap.objs.size) { s with heap:=s.heap.push { cls:=.type "tuple",data:=.seq ((items.toList.drop (sIx items.size 0 lo)).take (sIx items.size items.size hi - sIx items.size 0 lo)).toArray } })
    (hsz:items.size≤sizeLine):wpAny (model prog w) A (getItem (.ref t) (.ref sl)) Q E s:=by
  have htake:sizeOk (.seq ((items.toList.drop (sIx items.size 0 lo)).take (sIx items.size items.size hi - sIx items.size 0 lo)).toArray):=by
    show ((items.toList.drop (sIx items.size 0 lo)).take (sIx items.size items.size hi - sIx items.size 0 lo)).toArray.size≤sizeLine
    rw [List.size_toArray,List.length_take,List.length_drop,Array.length_toList]
    omega
  have hj:sIx items.size items.size hi≤items.size:=sIx_le _ _ (Nat.le_refl _) hi
  obtain ⟨os,hos,hcs,hds⟩:=id hs
  have hTs:s.TypeIs (.ref sl) "slice":=⟨os,hos,hcs⟩
  unfold getItem
  try with_reducible refine wpAny_holding ?_
  first | refine wpAny_bind (wpAny_pure ?_) | skip
  refine wpAny_bind (wpAny_sequenceKey ht.typeIs (by decide) ?_)
  refine wpAny_bind (wpAny_callSpecial?_slot (name:=Str.ofString "__getitem__") ht.typeIs PyProof.Rows.slot_tuple_getitem
    (wpAny_call_entry PyProof.Rows.slot_tuple_getitem ht.typeIs entry_tuple_getitem ?_ (args_tuple_getitem _ _)))
  show wpAny _ _ (Builtin.Tuple.tupleItemsOf (.ref t) >>= _) _ _ s
  refine wpAny_bind (tupleItemsOf_ ht ?_)
  refine wpAny_bind (wpAny_typeOf hTs ?_)
  rw [if_pos (by decide)]
  refine wpAny_bind (sliceApplied_gen hs pl pu ?_)
  have hno:¬ ((((sIx items.size 0 lo:Nat):Int) == 0 && (1:Int) == 1 && (sIx items.size items.size hi - sIx items.size 0 lo) == items.size) = true):=by
    intro q
    rw [Bool.and_eq_true,Bool.and_eq_true] at q
    have q1:((sIx items.size 0 lo:Nat):Int) = 0:=eq_of_beq q.1.1
    have q2:sIx items.size items.size hi - sIx items.size 0 lo = items.size:=eq_of_beq q.2
    exact hw ⟨by omega,by omega⟩
  show wpAny _ _ (if (((sIx items.size 0 lo:Nat):Int) == 0 && (1:Int) == 1 && (sIx items.size items.size hi - sIx items.size 0 lo) == items.size) = true then _ else _) _ _ s
  rw [if_neg hno,pick_gen]
  first
    | exact wpAny_bind (m:=Builtin.Tuple.tupleExact _) (wpAny_newObj_type (wpAny_pure ⟨_,rfl,wpAny_pure h⟩) htake)
    | exact wpAny_bind (m:=Builtin.Tuple.tupleExact _) (wpAny_newObj_type (wpAny_bind (wpAny_pure (wpAny_pure ⟨_,rfl,wpAny_pure h⟩))) htake)
    | exact wpAny_bind (wpAny_bind (m:=Builtin.Tuple.tupleExact _) (wpAny_newObj_type (wpAny_pure (wpAny_pure ⟨_,rfl,wpAny_pure h⟩)) htake))
    | exact wpAny_bind (wpAny_bind (m:=Builtin.Tuple.tupleExact _) (wpAny_newObj_type (wpAny_pure ⟨_,rfl,wpAny_pure h⟩) htake))
end
end HT

namespace L2
open PySem PySem.Spec PyProof.Rows

abbrev TO:=St→Hp→(Option Int→Hp→Prop)→Prop
def PO (X:Cx) (e:Option Expr) (t:TO):Prop :=
  ∀ (pins:List (Addr×Obj)) (s:Shared) (σ:St) (H:Hp) (Q:Option Int→Hp→Prop),Inv X pins σ H s→t σ H Q →
    wpAny (model X.prog X.w) X.A (evalPart e X.env) (fun u s'=>∃ o H',Inv X pins σ H' s'∧IsPart u o∧Q o H') X.xe s
def tNoPart:TO:=fun _ H Q=>Q none H
def tPart (t:TE):TO:=fun σ H Q=>t σ H fun x H1=>∃ i,x = .int i∧Q (some i) H1

section
variable {X:Cx} {e:Expr} {te:TE} {lo hi:Option Expr} {tl th:TO} {pos p2:Pos}

theorem po_none:PO X none tNoPart:=by
  intro pins s σ H Q I h
  rw [evalPart_none]
  exact wpAny_pure ⟨none,H,I,.none,h⟩
theorem po_some (h:PE X e te):PO X (some e) (tPart te):=by
  intro pins s σ H Q I hw
  rw [evalPart_some]
  refine thn (h pins s σ H _ I hw) fun u s1 ⟨x,H1,I1,r1,q1⟩=>?_
  obtain ⟨i,rfl,q⟩:=q1
  obtain ⟨t,rfl⟩:=r1
  exact ⟨some i,H1,I1,.int i t,q⟩

def SlR (X:Cx) (r:V→Option Int→Option Int→Hp→VK→Prop):Prop :=
  ∀ (pins:List (Addr×Obj)) (s:Shared) (σ:St) (H:Hp) (x:V) (v vl vu:Value) (lo hi:Option Int) (sl:Addr) (Q:VK),Inv X pins σ H s→RelV x v→s.heap.IsSliceOf sl vl vu .none→IsPart vl lo→IsPart vu hi→r x lo hi H Q →
    ∃ T id,typeLookup (.type T) "__getitem__" = pure (some (.builtin id))∧s.TypeIs v T∧wpAny (model X.prog X.w) X.A (getItem v (.ref sl)) (EP X pins σ Q) X.xe s
def tSl (r:V→Option Int→Option Int→Hp→VK→Prop) (te:TE) (tl th:TO):TE:=fun σ H Q=>te σ H fun x H1=>tl σ H1 fun l H2=>th σ H2 fun u H3=>r x l u H3 Q
theorem pe_slice {r:V→Option Int→Option Int→Hp→VK→Prop} (hr:SlR X r) (he:PE X e te) (hl:PO X lo tl) (hu:PO X hi th):PE X (.Subscript e (.Slice lo hi none p2) pos) (tSl r te tl th):=by
  intro pins s σ H Q I h
  refine Subscript_ (thn (he pins s σ H _ I h) fun v s1 ⟨x,H1,I1,r1,q1⟩=>?_)
  refine wpAny_Slice (thn (hl pins s1 σ H1 _ I1 q1) fun vl s2 ⟨l,H2,I2,pl,q2⟩=>thn (hu pins s2 σ H2 _ I2 q2) fun vu s3 ⟨u,H3,I3,pu,q3⟩=>?_)
  rw [evalPart_none]
  refine wpAny_pure ?_
  have I4:Inv X pins σ H3 { s3 with heap:=s3.heap.push { cls:=.type "slice",data:=.fields #[vl,vu,.none] } }:=I3.kept (t':=s3.toks) fun b ob q=>Heap.get?_push_of_some _ q
  obtain ⟨T,id,hT,ht,hg⟩:=hr pins { s3 with heap:=s3.heap.push { cls:=.type "slice",data:=.fields #[vl,vu,.none] } } σ H3 x v vl vu l u s3.heap.objs.size Q I4 r1 (Heap.IsSliceOf.new ..) pl pu q3
  show wpAny (model X.prog X.w) X.A (subscriptTail e (.Slice lo hi none p2) v (.ref s3.heap.objs.size)) (EP X pins σ Q) X.xe { s3 with heap:=s3.heap.push { cls:=.type "slice",data:=.fields #[vl,vu,.none] } }
  exact tail_any (ops:=[.ref s3.heap.objs.size,v]) ht hT hg (by with_unfolding_all rfl)

def cutV (xs:List V) (lo hi:Option Int):List V:=(xs.drop (HT.sIx xs.length 0 lo)).take (HT.sIx xs.length xs.length hi - HT.sIx xs.length 0 lo)
theorem cutV_length (xs:List V) (lo hi:Option Int):(cutV xs lo hi).length≤xs.length:=by
  unfold cutV
  rw [List.length_take,List.length_drop]
  omega
def rSlT (K:PySem.W.Frag):V→Option Int→Option Int→Hp→VK→Prop:=fun x lo hi H Q=>∃ a xs,x = .ref a∧SqT K H a xs ∧
  ¬ (HT.sIx xs.length 0 lo = 0∧HT.sIx xs.length xs.length hi = xs.length)∧∀ p,H p = none→Q (.ref p) (upd H p (.tup (cutV xs lo hi)))
theorem sl_tup:SlR X (rSlT X.K):=by
  intro pins s σ H x v vl vu lo hi sl Q I rx hs pl pu h
  obtain ⟨a,xs,rfl,hx,hw,q⟩:=h
  cases rx
  obtain ⟨its,r,ht,hz⟩:=I.tuple hx
  have hlen:its.toArray.size = xs.length:=by rw [List.size_toArray]; exact r.length.symm
  refine ⟨"tuple",_,PyProof.Rows.slot_tuple_getitem.lookup,ht.typeIs,?_⟩
  refine HT.getItem_tuple_cut ht hs pl pu (by rw [hlen]; exact hw) ?_ (by rw [hlen]; exact hz)
  rw [hlen]
  refine ⟨.ref s.heap.objs.size,_,I.laid (t':=s.toks) (o:=.tup (cutV xs lo hi)) (fun b ob q=>Heap.get?_push_of_some _ q) (Nat.le_refl _) ?_,rfl,q _ (I.hok.fresh (Nat.le_refl _))⟩
  exact ⟨Nat.le_trans (cutV_length xs lo hi) hz,_,(r.drop (HT.sIx xs.length 0 lo)).take (HT.sIx xs.length xs.length hi - HT.sIx xs.length 0 lo),IsTup.new _ _⟩

end
end L2

namespace L2
open PySem PySem.Spec PyProof.Rows

def ixN (n:Nat) (i:Int):Option Nat:=if 0≤i then (if i < n then some i.toNat else none) else if -(n:Int)≤i then some (i+n).toNat else none
def atI {α:Type} (xs:List α) (i:Int):Option α:=(ixN xs.length i).bind fun j=>xs[j]?
theorem ixN_seq {n:Nat} {i:Int} {j:Nat} (h:ixN n i = some j):seqIndex? i n = some j∧j < n∧-(n:Int)≤i∧i < n:=by
  unfold ixN at h
  by_cases h0:0≤i
  · rw [if_pos h0] at h
    by_cases h1:i < n
    · rw [if_pos h1] at h
      have e:i.toNat = j:=Option.some.inj h
      exact ⟨by rw [seqIndex_of h0 h1,e],by omega,by omega,h1⟩
    · rw [if_neg h1] at h; cases h
  · rw [if_neg h0] at h
    by_cases h1:-(n:Int)≤i
    · rw [if_pos h1] at h
      have e:(i+n).toNat = j:=Option.some.inj h
      exact ⟨by rw [seqIndex_neg (by omega) h1,e],by omega,h1,by omega⟩
    · rw [if_neg h1] at h; cases h
theorem atI_get {α:Type} {xs:List α} {i:Int} {v:α} (h:atI xs i = some v):∃ j,seqIndex? i xs.length = some j∧xs[j]? = some v∧j < xs.length∧-(xs.length:Int)≤i∧i < xs.length:=by
  unfold atI at h
  cases e:ixN xs.length i with
  | none=>rw [e] at h; cases h
  | some j =>
    rw [e] at h
    obtain ⟨h1,h2,h3,h4⟩:=ixN_seq e
    exact ⟨j,h1,h,h2,h3,h4⟩
theorem atI_nat {α:Type} {xs:List α} {j:Nat} {v:α} (h:xs[j]? = some v):atI xs (j:Int) = some v:=by
  have hj:j < xs.length:=(List.getElem?_eq_some_iff.mp h).1
  have e:ixN xs.length (j:Int) = some j:=by
    unfold ixN
    rw [if_pos (by omega),if_pos (by omega)]; simp
  unfold atI; rw [e]; exact h
def PlainIx (b:Expr):Prop:=∀ o i,subscripted b false o i = operate [o,i] (getItem o i)
def IxR (X:Cx) (r:R2):Prop :=
  ∀ (value slice:Expr) (pins:List (Addr×Obj)) (s:Shared) (σ:St) (H:Hp) (x y:V) (v u:Value) (Q:VK),Inv X pins σ H s→RelV x v→RelV y u→r x y H Q →
    subscripted slice false v u = operate [v,u] (getItem v u)→wpAny (model X.prog X.w) X.A (subscriptTail value slice v u) (EP X pins σ Q) X.xe s
def MtR (X:Cx) (id:String) (r:V→List V→Hp→VK→Prop):Prop :=
  ∀ (pins:List (Addr×Obj)) (s:Shared) (σ:St) (H:Hp) (x:V) (xs:List V) (v:Value) (us:List Value) (Q:VK),Inv X pins σ H s→RelV x v→Vals xs us→r x xs H Q →
    wpAny (model X.prog X.w) X.A (call (.builtin id) (v::us)) (EP X pins σ Q) X.xe s
section
variable {X:Cx} {a b:Expr} {ta tb:TE} {pos:Pos}
theorem pe_ix {r:R2} (hr:IxR X r) (ha:PE X a ta) (hb:PE X b tb) (hs:PlainIx b):PE X (.Subscript a b pos) (tOp r ta tb):=by
  intro pins s σ H Q I h
  exact Subscript_ (binT ha hb I h fun v u s2 x y H2 I2 rx ry q=>hr a b pins s2 σ H2 x y v u Q I2 rx ry q (hs _ _))

def rIxL (K:PySem.W.Frag):R2:=fun x y H Q=>∃ p xs i v,x = .ref p∧y = .int i∧SqL K H p xs∧atI xs i = some v∧Q v H
def rIxT (K:PySem.W.Frag):R2:=fun x y H Q=>∃ p xs i v,x = .ref p∧y = .int i∧SqT K H p xs∧atI xs i = some v∧Q v H
def rIxS:R2:=fun x y H Q=>∃ z i c,x = .str z∧y = .int i∧z.length≤sizeLine∧atI z.cps.toList i = some c∧Q (.str ⟨#[c]⟩) H
theorem ix_list:IxR X (rIxL X.K):=by
  intro value slice pins s σ H x y v u Q I rx ry h hs
  obtain ⟨p,xs,i,z,rfl,rfl,hq,he,q⟩:=h
  cases rx
  obtain ⟨t,rfl⟩:=ry
  obtain ⟨its,r,pl,hz⟩:=I.list hq
  obtain ⟨j,h1,h2,h3,h4,h5⟩:=atI_get he
  obtain ⟨w,ew,rw'⟩:=r.get h2
  have hl:=r.length
  have hn:=line63
  have fin:EP X pins σ Q w s:=⟨z,H,I,rw',q⟩
  by_cases h0:0≤i
  · have hj:i.toNat = j:=by
      rw [seqIndex_of h0 h5] at h1
      exact Option.some.inj h1
    exact item_listR pl.isList h0 (by omega) (by rw [hj]; simpa using ew) fin hs
  · have hj:(i+(its.toArray.size:Int)).toNat = j:=by
      rw [seqIndex_neg (by omega) h4] at h1
      rw [List.size_toArray,← hl]
      exact Option.some.inj h1
    exact subscriptTail_builtinR (x:=w) pl.isList.typeIs slot_list_getitem.lookup
      (wpAny_getItem_list_neg (Q:=fun r s'=>r = w∧EP X pins σ Q r s') pl.isList (by omega) (by rw [List.size_toArray]<;>omega) (by omega) (by rw [hj]; simpa using ew) ⟨rfl,fin⟩) hs
theorem ix_tup:IxR X (rIxT X.K):=by
  intro value slice pins s σ H x y v u Q I rx ry h hs
  obtain ⟨p,xs,i,z,rfl,rfl,hq,he,q⟩:=h
  cases rx
  obtain ⟨t,rfl⟩:=ry
  obtain ⟨its,r,pl,hz⟩:=I.tuple hq
  obtain ⟨j,h1,h2,h3,h4,h5⟩:=atI_get he
  obtain ⟨w,ew,rw'⟩:=r.get h2
  have hl:=r.length
  have hn:=line63
  have fin:EP X pins σ Q w s:=⟨z,H,I,rw',q⟩
  exact subscriptTail_builtinR (x:=w) pl.typeIs slot_tuple_getitem.lookup
    (getItem_tuple (j:=j) (Q:=fun r s'=>r = w∧EP X pins σ Q r s') pl (by omega) (by omega) (by rw [List.size_toArray,← hl]; exact h1) (by simpa using ew) ⟨rfl,fin⟩) hs
theorem ix_str:IxR X rIxS:=by
  intro value slice pins s σ H x y v u Q I rx ry h hs
  obtain ⟨z,i,c,rfl,rfl,hz,he,q⟩:=h
  obtain ⟨t,rfl⟩:=rx
  obtain ⟨t',rfl⟩:=ry
  obtain ⟨j,h1,h2,h3,h4,h5⟩:=atI_get he
  have hl:z.cps.toList.length = z.length:=by simp [Str.length]
  rw [hl] at h1 h4 h5
  have hn:=line63
  exact tail_any (typeIs_str s z t) slot_str_getitem.lookup (getItem_str (c:=c) (by
    have e1:decide (i < -(2 ^ 63:Int)) = false:=decide_eq_false (by omega)
    have e2:decide (i ≥ 2 ^ 63) = false:=decide_eq_false (by omega)
    rw [e1,e2,Bool.or_false]) (by rw [h1]; simpa using h2) ⟨.str ⟨#[c]⟩,H,I.tok _,⟨_,rfl⟩,q⟩) hs
theorem mapSeq_set (its:List Value) (n j:Nat) (u:Value):Obj.mapSeq (·.setIfInBounds j u) { cls:=.type "list",data:=.seq its.toArray n } = { cls:=.type "list",data:=.seq (its.set j u).toArray n }:=by
  simp [Obj.mapSeq]
theorem Inv.lst {pins:List (Addr×Obj)} {σ:St} {H:Hp} {s:Shared} {p:Addr} {xs:List V} (I:Inv X pins σ H s) (h:H p = some (.lst xs)) :
    ∃ (its:List Value) (n:Nat),Vals xs its∧s.heap.get? p = some { cls:=.type "list",data:=.seq its.toArray n }∧xs.length≤sizeLine:=by
  obtain ⟨z,its,n,r,e⟩:=I.hok p _ h
  exact ⟨its,n,r,e,z⟩
theorem Inv.lstUpd {pins:List (Addr×Obj)} {σ:St} {H:Hp} {s:Shared} {p:Addr} {xs ys:List V} {its its':List Value} {n n':Nat} {f:Obj→Obj} (I:Inv X pins σ H s) (h:H p = some (.lst xs))
    (ho:s.heap.get? p = some { cls:=.type "list",data:=.seq its.toArray n }) (hf:f { cls:=.type "list",data:=.seq its.toArray n } = { cls:=.type "list",data:=.seq its'.toArray n' }) (r:Vals ys its') (hz:ys.length≤sizeLine) (t:Nat) :
    Inv X pins σ (upd H p (.lst ys)) { s with heap:=s.heap.update p f,toks:=t }:=by
  have e:(s.heap.update p f).get? p = some { cls:=.type "list",data:=.seq its'.toArray n' }:=by
    rw [Heap.get?_update_self f ho (by rw [hf]<;>rfl),hf]
  refine I.write (x:=p) (e:=p) (by rw [h]; trivial) (.inl rfl) (fun b u hb q=>(Heap.get?_update_other _ _ (Ne.symm hb)).trans q) ⟨_,e⟩ ?_
  exact ⟨hz,its',n',r,e⟩
def rSetL:V→V→V→Hp→(Hp→Prop)→Prop:=fun o i v H Q=>∃ p xs k j,o = .ref p∧i = .int k∧H p = some (.lst xs)∧ixN xs.length k = some j∧Q (upd H p (.lst (xs.set j v)))
theorem set_list:PSet X rSetL:=by
  intro pins s σ H o i v ov iv u Q I ro ri rv h
  obtain ⟨p,xs,k,j,rfl,rfl,hp,hj,q⟩:=h
  cases ro
  obtain ⟨t,rfl⟩:=ri
  obtain ⟨its,n,r,ho,hz⟩:=I.lst hp
  obtain ⟨h1,h2,h3,h4⟩:=ixN_seq hj
  have hl:=r.length
  have hn:=line63
  have I':Inv X pins σ (upd H p (.lst (xs.set j v))) { s with heap:=s.heap.update p (Obj.mapSeq (·.setIfInBounds j u)) } :=
    I.lstUpd hp ho (mapSeq_set its n j u) (r.set rv j) (by rw [List.length_set]; exact hz) s.toks
  by_cases h0:0≤k
  · have hk:k.toNat = j:=by
      rw [seqIndex_of h0 h4] at h1
      exact Option.some.inj h1
    exact PySem.W.ki_setAt ho h0 (by omega) (by rw [List.size_toArray,← hl]; exact h4) (by rw [hk]; exact ⟨_,I',q⟩)
  · have hk:(k+(its.toArray.size:Int)).toNat = j:=by
      rw [seqIndex_neg (by omega) h3] at h1
      rw [List.size_toArray,← hl]
      exact Option.some.inj h1
    exact PySem.W.ki_setBack ho (by omega) (by rw [List.size_toArray,← hl]; exact h3) (by omega) (by rw [hk]; exact ⟨_,I',q⟩)

theorem slice_bounds (lo hi:Option Int) (n:Nat):(sliceBounds lo hi none n).1 = ((HT.sIx n 0 lo:Nat):Int)∧(sliceBounds lo hi none n).2.1 = ((HT.sIx n n hi:Nat):Int)∧(sliceBounds lo hi none n).2.2 = 1:=by
  refine ⟨?_,?_,rfl⟩
  · cases lo with
    | none=>simp [sliceBounds,HT.sIx]
    | some i =>
      simp only [sliceBounds,HT.sIx,Option.getD_none,show (1:Int) > 0 by decide,if_true]
      by_cases h:i < 0
      · simp only [h,if_true]<;>omega
      · simp only [h,if_false]<;>omega
  · cases hi with
    | none=>simp [sliceBounds,HT.sIx]
    | some i =>
      simp only [sliceBounds,HT.sIx,Option.getD_none,show (1:Int) > 0 by decide,if_true]
      by_cases h:i < 0
      · simp only [h,if_true]<;>omega
      · simp only [h,if_false]<;>omega
theorem slicePick_cut (its:List Value) (lo hi:Option Int):slicePick its.toArray lo hi none = ((its.drop (HT.sIx its.length 0 lo)).take (HT.sIx its.length its.length hi - HT.sIx its.length 0 lo)).toArray:=by
  obtain ⟨h1,h2,h3⟩:=slice_bounds lo hi its.toArray.size
  unfold slicePick
  rw [h1,h2,h3]
  simp only [sliceRange_one,pick_run,List.size_toArray]<;>rfl
def rSlL (K:PySem.W.Frag):V→Option Int→Option Int→Hp→VK→Prop:=fun x lo hi H Q=>∃ a xs,x = .ref a∧SqL K H a xs∧∀ p,H p = none→Q (.ref p) (upd H p (.lst (cutV xs lo hi)))
theorem sl_list:SlR X (rSlL X.K):=by
  intro pins s σ H x v vl vu lo hi sl Q I rx hs pl pu h
  obtain ⟨a,xs,rfl,hx,q⟩:=h
  cases rx
  obtain ⟨its,r,ht,hz⟩:=I.list hx
  have hlen:=r.length
  refine ⟨"list",_,slot_list_getitem.lookup,ht.isList.typeIs,?_⟩
  refine wpAny_getItem_list_slice ht.isList hs pl pu .none (by simp) ?_ (by rw [List.size_toArray]<;>omega)
  rw [slicePick_cut,← hlen]
  refine ⟨.ref s.heap.objs.size,_,I.laid (t':=s.toks) (o:=.lst (cutV xs lo hi)) (fun b ob q=>Heap.get?_push_of_some _ q) (Nat.le_refl _) ?_,rfl,q _ (I.hok.fresh (Nat.le_refl _))⟩
  exact ⟨Nat.le_trans (cutV_length xs lo hi) hz,_,0,(r.drop (HT.sIx xs.length 0 lo)).take (HT.sIx xs.length xs.length hi - HT.sIx xs.length 0 lo),Heap.get?_push_size _ rfl⟩

def flatV:V→Bool
  | .non=>true
  | .bl _=>true
  | .int _=>true
  | .str _=>true
  | _=>false
def eqV:V→V→Bool
  | .non,.non=>true
  | .bl a,.bl b=>a == b
  | .bl a,.int b=>(if a then 1 else 0) == b
  | .int a,.bl b=>a == (if b then 1 else 0)
  | .int a,.int b=>a == b
  | .str a,.str b=>a == b
  | _,_=>false
theorem eqAt_V {A:Around} {s:Shared} {y x:V} {u v:Value} (ry:RelV y u) (rx:RelV x v) (fy:flatV y = true) (fx:flatV x = true):SeqAt.EqAt A s u v (eqV y x):=by
  cases y with
  | non =>
    cases ry
    cases x with
    | non=>cases rx; exact SeqAt.EqAt.same _
    | bl b=>cases rx; exact SeqAt.EqAt.none_bool b
    | int b=>obtain ⟨t,rfl⟩:=rx; exact SeqAt.EqAt.none_int b t
    | str b=>obtain ⟨t,rfl⟩:=rx; exact SeqAt.EqAt.none_str b t
    | _=>exact absurd (show false = true from fx) Bool.false_ne_true
  | bl a =>
    cases ry
    cases x with
    | non=>cases rx; exact SeqAt.EqAt.bool_none a
    | bl b=>cases rx; exact SeqAt.EqAt.bool_bool a b
    | int b=>obtain ⟨t,rfl⟩:=rx; exact SeqAt.EqAt.bool_int a b t
    | str b=>obtain ⟨t,rfl⟩:=rx; exact SeqAt.EqAt.bool_str a b t
    | _=>exact absurd (show false = true from fx) Bool.false_ne_true
  | int a =>
    obtain ⟨t',rfl⟩:=ry
    cases x with
    | non=>cases rx; exact SeqAt.EqAt.int_none a t'
    | bl b=>cases rx; exact SeqAt.EqAt.int_bool a t' b
    | int b=>obtain ⟨t,rfl⟩:=rx; exact SeqAt.EqAt.int_int a t' b t
    | str b=>obtain ⟨t,rfl⟩:=rx; exact SeqAt.EqAt.int_str a t' b t
    | _=>exact absurd (show false = true from fx) Bool.false_ne_true
  | str a =>
    obtain ⟨t',rfl⟩:=ry
    cases x with
    | non=>cases rx; exact SeqAt.EqAt.str_none a t'
    | bl b=>cases rx; exact SeqAt.EqAt.str_bool a t' b
    | int b=>obtain ⟨t,rfl⟩:=rx; exact SeqAt.EqAt.str_int a t' b t
    | str b=>obtain ⟨t,rfl⟩:=rx; exact SeqAt.EqAt.str_str a t' b t
    | _=>exact absurd (show false = true from fx) Bool.false_ne_true
  | _=>exact absurd (show false = true from fy) Bool.false_ne_true
def eqU (x:V) (u:Value):Bool:=match u with
  | .none=>eqV .non x
  | .bool b=>eqV (.bl b) x
  | .int i _=>eqV (.int i) x
  | .str z _=>eqV (.str z) x
  | _=>false
theorem eqU_of {x y:V} {u:Value} (r:RelV y u) (f:flatV y = true):eqU x u = eqV y x:=by
  cases y with
  | non=>cases r; rfl
  | bl b=>cases r; rfl
  | int i=>obtain ⟨t,rfl⟩:=r; rfl
  | str z=>obtain ⟨t,rfl⟩:=r; rfl
  | _=>exact absurd (show false = true from f) Bool.false_ne_true
theorem any_eqU {x:V}:∀ {xs:List V} {us:List Value},Vals xs us→xs.all flatV = true→us.any (eqU x) = xs.any fun y=>eqV y x
  | _,_,.nil,_=>rfl
  | y::xs,u::us,.cons r t,f=>by
    rw [List.all_cons,Bool.and_eq_true] at f
    rw [List.any_cons,List.any_cons,eqU_of r f.1,any_eqU t f.2]
theorem mem_eqAt {A:Around} {s:Shared} {x:V} {v:Value} (rx:RelV x v) (fx:flatV x = true):∀ {xs:List V} {us:List Value},Vals xs us→xs.all flatV = true→∀ u∈us,SeqAt.EqAt A s u v (eqU x u)
  | _,_,.nil,_=>fun u hu=>by cases hu
  | y::xs,u::us,.cons r t,f=>fun u' hu=>by
    rw [List.all_cons,Bool.and_eq_true] at f
    rcases List.mem_cons.mp hu with rfl | hu
    · rw [eqU_of r f.1]; exact eqAt_V r rx f.1 fx
    · exact mem_eqAt rx fx t f.2 u' hu
def inV (x:V) (xs:List V):Bool:=xs.any fun y=>eqV y x
def rIn (K:PySem.W.Frag) (neg:Bool):R2:=fun x y H Q=>∃ p xs,y = .ref p∧(SqL K H p xs∨SqT K H p xs)∧flatV x = true∧xs.all flatV = true∧Q (.bl (if neg then !inV x xs else inV x xs)) H
theorem op_in_seq:OpR X (compareOp .In) (rIn X.K false):=by
  intro pins s σ H x y v u Q I rx ry h
  obtain ⟨p,xs,rfl,hq,fx,fs,q⟩:=h
  cases ry
  rcases hq with hq | hq
  · obtain ⟨its,r,pl,hz⟩:=I.list hq
    refine SeqAt.in_listAt (eqU x) pl.isList (fun w hw=>mem_eqAt rx fx r fs w (by simpa using hw)) ⟨.bl _,H,I,rfl,?_⟩
    rw [show its.toArray.any (eqU x) = its.any (eqU x) by simp,any_eqU r fs]
    exact q
  · obtain ⟨its,r,pl,hz⟩:=I.tuple hq
    refine SeqAt.in_tupleAt (eqU x) pl (fun w hw=>mem_eqAt rx fx r fs w (by simpa using hw)) ⟨.bl _,H,I,rfl,?_⟩
    rw [show its.toArray.any (eqU x) = its.any (eqU x) by simp,any_eqU r fs]
    exact q
theorem op_notIn_seq:OpR X (compareOp .NotIn) (rIn X.K true):=by
  intro pins s σ H x y v u Q I rx ry h
  obtain ⟨p,xs,rfl,hq,fx,fs,q⟩:=h
  cases ry
  rcases hq with hq | hq
  · obtain ⟨its,r,pl,hz⟩:=I.list hq
    refine SeqAt.notIn_listAt (eqU x) pl.isList (fun w hw=>mem_eqAt rx fx r fs w (by simpa using hw)) ⟨.bl _,H,I,rfl,?_⟩
    rw [show its.toArray.any (eqU x) = its.any (eqU x) by simp,any_eqU r fs]
    exact q
  · obtain ⟨its,r,pl,hz⟩:=I.tuple hq
    refine SeqAt.notIn_tupleAt (eqU x) pl (fun w hw=>mem_eqAt rx fx r fs w (by simpa using hw)) ⟨.bl _,H,I,rfl,?_⟩
    rw [show its.toArray.any (eqU x) = its.any (eqU x) by simp,any_eqU r fs]
    exact q
theorem op_notIn_str:OpR X (compareOp .NotIn) (fun x y H Q=>∃ i j,x = .str i∧y = .str j∧Q (.bl (!(!(Builtin.Str.occurrences j i 0 j.length 1).isEmpty))) H):=by
  intro pins s σ H x y v u Q I rx ry h
  obtain ⟨i,j,rfl,rfl,q⟩:=h
  obtain ⟨t,rfl⟩:=rx
  obtain ⟨t',rfl⟩:=ry
  exact notIn_str ⟨.bl _,H,I,rfl,q⟩

theorem call_len_seq:CallR X (.builtin "len") (fun xs H Q=>∃ p ys,xs = [.ref p]∧(SqL X.K H p ys∨SqT X.K H p ys)∧Q (.int ys.length) H):=by
  intro pins s σ H xs us Q I r h
  obtain ⟨p,ys,rfl,hq,q⟩:=h
  obtain ⟨u,rfl,rx⟩:=vals1 r
  cases rx
  have hn:=line63
  rcases hq with hq | hq
  · obtain ⟨its,r',pl,hz⟩:=I.list hq
    have hlen:=r'.length
    exact Calls.call_len_list pl.isList (by simp only [List.size_toArray]<;>omega) ⟨.int ys.length,H,I.tok _,⟨s.toks+1,by rw [List.size_toArray,hlen]⟩,q⟩
  · obtain ⟨its,r',pl,hz⟩:=I.tuple hq
    have hlen:=r'.length
    exact len_tuple pl (by simp only [List.size_toArray]<;>omega) ⟨.int ys.length,H,I.tok _,⟨s.toks+1,by rw [List.size_toArray,hlen]⟩,q⟩
theorem call_len_str:CallR X (.builtin "len") (fun xs H Q=>∃ z,xs = [.str z]∧z.length≤sizeLine∧Q (.int z.length) H):=by
  intro pins s σ H xs us Q I r h
  obtain ⟨z,rfl,hz,q⟩:=h
  obtain ⟨u,rfl,t,rfl⟩:=vals1 r
  have hn:=line63
  exact len_str (by omega) ⟨.int z.length,H,I.tok _,⟨_,rfl⟩,q⟩
theorem call_list_of:CallR X (.type "list") (fun xs H Q=>∃ p ys,xs = [.ref p]∧(SqL X.K H p ys∨SqT X.K H p ys)∧∀ l,H l = none→Q (.ref l) (upd H l (.lst ys))):=by
  intro pins s σ H xs us Q I r h
  obtain ⟨p,ys,rfl,hq,q⟩:=h
  obtain ⟨u,rfl,rx⟩:=vals1 r
  cases rx
  have fin:∀ (its:List Value),Vals ys its→ys.length≤sizeLine→∀ (h':Heap) (c':Nat),(∀ b o',s.heap.get? b = some o'→h'.get? b = some o') →
      h'.get? s.heap.objs.size = some { cls:=.type "list",dict:=none,data:=.seq its.toArray c',slots:=#[] }→EP X pins σ Q (.ref s.heap.objs.size) { s with heap:=h' }:=fun its r' hz h' c' kp e =>
    ⟨.ref s.heap.objs.size,_,I.laid (t':=s.toks) kp (Nat.le_refl _) (show ObjOk X.prog X.w _ h' _ (.lst ys) from ⟨hz,its,c',r',e⟩),rfl,q _ (I.hok.fresh (Nat.le_refl _))⟩
  rcases hq with hq | hq
  · obtain ⟨its,r',pl,hz⟩:=I.list hq
    have hlen:=r'.length
    obtain ⟨o,ho,hc,n,hd⟩:=pl.isList
    exact call_list_seq p (.inl rfl) ho hc hd (fun h' c' kp e=>fin its r' hz h' c' kp e) (by simp only [List.size_toArray]<;>omega)
  · obtain ⟨its,r',pl,hz⟩:=I.tuple hq
    have hlen:=r'.length
    obtain ⟨o,ho,hc,n,hd⟩:=pl
    exact call_list_seq p (.inr rfl) ho hc hd (fun h' c' kp e=>fin its r' hz h' c' kp e) (by simp only [List.size_toArray]<;>omega)
theorem call_tuple_of:CallR X (.type "tuple") (fun xs H Q=>∃ p ys,xs = [.ref p]∧((SqL X.K H p ys∧∀ l,H l = none→Q (.ref l) (upd H l (.tup ys)))∨(SqT X.K H p ys∧Q (.ref p) H))):=by
  intro pins s σ H xs us Q I r h
  obtain ⟨p,ys,rfl,h⟩:=h
  obtain ⟨u,rfl,rx⟩:=vals1 r
  cases rx
  rcases h with ⟨hq,q⟩ | ⟨hq,q⟩
  · obtain ⟨its,r',pl,hz⟩:=I.list hq
    have hlen:=r'.length
    refine call_tuple_list pl.isList (fun h' kp=>?_) (by simp only [List.size_toArray]<;>omega)
    have I1:Inv X pins σ H { s with heap:=h' }:=I.kept (t':=s.toks) kp
    have I2:Inv X pins σ (upd H h'.objs.size (.tup ys)) { s with heap:=h'.push { cls:=.type "tuple",data:=.seq its.toArray } } :=
      I1.laid (t':=s.toks) (fun b o e=>Heap.get?_push_of_some _ e) (Nat.le_refl _) (show ObjOk X.prog X.w _ _ _ (.tup ys) from ⟨hz,its,r',IsTup.new _ _⟩)
    exact ⟨.ref h'.objs.size,_,I2,rfl,q _ (I1.hok.fresh (Nat.le_refl _))⟩
  · obtain ⟨its,r',pl,hz⟩:=I.tuple hq
    exact call_tuple_same pl ⟨.ref p,H,I,rfl,q⟩

def tyV (K:PySem.W.Frag) (T:String) (x:V) (H:Hp):Prop:=match x with
  | .str _=>T = "str"
  | .int _=>T = "int"
  | .ref p=>(T = "list"∧∃ xs,SqL K H p xs)∨(T = "tuple"∧∃ o,K.lookup p = some o∧o.cls = .type "tuple"∧o.dict = none) ∨
      (T = "dict"∧((∃ kvs,H p = some (.dK kvs))∨∃ kvs,H p = some (.dT kvs)))∨(T = "set"∧∃ S n,H p = some (.set S n))
  | _=>False
theorem tyV_is {pins:List (Addr×Obj)} {σ:St} {H:Hp} {s:Shared} {T:String} {x:V} {v:Value} (I:Inv X pins σ H s) (r:RelV x v) (ty:tyV X.K T x H) :
    s.TypeIs v T∧∀ a,v = .ref a→∃ ob,s.heap.get? a = some ob∧ob.dict = none:=by
  cases x with
  | str z =>
    obtain ⟨t,rfl⟩:=r
    cases (show T = "str" from ty)
    exact ⟨typeIs_str s z t,fun _ e=>nomatch e⟩
  | int i =>
    obtain ⟨t,rfl⟩:=r
    cases (show T = "int" from ty)
    exact ⟨typeIs_int s i t,fun _ e=>nomatch e⟩
  | ref p =>
    cases r
    rcases ty with ⟨rfl,xs,hq⟩ | ⟨rfl,o,hk,hc,hd⟩ | ⟨rfl,hk⟩ | ⟨rfl,S,n,hk⟩
    · obtain ⟨its,_,pl,_⟩:=I.list hq
      refine ⟨pl.isList.typeIs,fun a e=>?_⟩
      cases e
      obtain ⟨o,n,e,c,hd,_⟩:=pl
      exact ⟨o,e,hd⟩
    · refine ⟨⟨o,I.kIn p o hk,hc⟩,fun a e=>?_⟩
      cases e
      exact ⟨o,I.kIn _ o hk,hd⟩
    · have z:∃ o,s.heap.get? p = some o∧o.ExactDict:=by
        rcases hk with ⟨kvs,hk⟩ | ⟨kvs,hk⟩
        · obtain ⟨_,_,_,_,o,_,_,e,ex,_⟩:=I.hok p _ hk
          exact ⟨o,e,ex⟩
        · obtain ⟨_,_,_,_,o,_,_,e,ex,_⟩:=I.hok p _ hk
          exact ⟨o,e,ex⟩
      obtain ⟨o,e,ex⟩:=z
      refine ⟨⟨o,e,ex.1⟩,fun a e2=>?_⟩
      cases e2
      exact ⟨o,e,ex.2.1⟩
    · obtain ⟨o,_,_,_,e,ex,_⟩:=I.hok p _ hk
      refine ⟨⟨o,e,ex.1⟩,fun a e2=>?_⟩
      cases e2
      exact ⟨o,e,ex.2.1⟩
  | _=>exact False.elim ty
def tBM0 (K:PySem.W.Frag) (T:String) (r:V→List V→Hp→VK→Prop) (to:TE):TE:=fun σ H Q=>to σ H fun x H1=>tyV K T x H1∧r x [] H1 Q
def tBM (K:PySem.W.Frag) (T:String) (r:V→List V→Hp→VK→Prop) (to:TE) (t:TA):TE:=fun σ H Q=>to σ H fun x H1=>tyV K T x H1∧t σ H1 fun xs H2=>r x xs H2 Q
variable {o e:Expr} {es:List Expr} {to:TE} {t:TA} {name:Str} {apos cpos:Pos} {T id:String} {r:V→List V→Hp→VK→Prop}
theorem pe_bm0 (pa:PlainAttrs T) (slot:Slot T name id) (hty:typeOf (.builtin id) = pure (.type "method_descriptor")) (hm:MtR X id r) (ho:PE X o to)
    (hbase:attributeBase o name X.env (eval o X.env) = eval o X.env:=by rfl) (hline:(apos.endLine == cpos.line) = true:=by rfl):PE X (.Call (.Attribute o name apos) [] [] cpos) (tBM0 X.K T r to):=by
  intro pins s σ H Q I h
  refine wpAny_Call_method0_late hbase hline (thn (ho pins s σ H _ I h) fun v s1 ⟨x,H1,I1,r1,ty,q1⟩=>?_)
  obtain ⟨h1,h2⟩:=tyV_is I1 r1 ty
  exact ⟨T,id,pa,slot,hty,h1,h2,Calls.callWith_builtin rfl (PySem.evalArgs_none (hm pins s1 σ H1 x [] v [] Q I1 r1 .nil q1))⟩
theorem pe_bm (pa:PlainAttrs T) (slot:Slot T name id) (hty:typeOf (.builtin id) = pure (.type "method_descriptor")) (hm:MtR X id r) (ho:PE X o to) (ha:PA X (e::es) t)
    (hbase:attributeBase o name X.env (eval o X.env) = eval o X.env:=by rfl)
    (hfew:((backTo cpos (starEach (e::es) X.env)).all (fun x=>!x.1) && (backToKw cpos (keywordEach [] X.env)).all (fun x=>x.1.isSome)
      && decide ((e::es).length+([]:List Keyword).length+(if ([]:List Keyword).isEmpty then 0 else 1) < 30)) = true:=by rfl)
    (hline:(apos.endLine == cpos.line) = true:=by rfl) (hs:starEach (e::es) X.env = (false,eval e X.env)::starEach es X.env:=by rfl) (hplain:(backTo cpos (starEach es X.env)).any (·.1) = false:=by rfl) :
    PE X (.Call (.Attribute o name apos) (e::es) [] cpos) (tBM X.K T r to t):=by
  intro pins s σ H Q I h
  refine wpAny_Call_method_late hbase hfew hline rfl (thn (ho pins s σ H _ I h) fun v s1 ⟨x,H1,I1,r1,ty,q1⟩=>?_)
  obtain ⟨h1,h2⟩:=tyV_is I1 r1 ty
  refine ⟨T,id,pa,slot,hty,h1,h2,?_⟩
  have hA:=ha cpos pins s1 σ H1 _ I1 q1
  rw [hs] at hA ⊢
  refine Calls.callWith_builtin (by show (false || (backTo cpos (starEach es X.env)).any (·.1)) = false; rw [hplain]<;>rfl) (Calls.evalArgs_plain ?_)
  exact thn hA fun us s2 ⟨vs,H2,I2,r2,q2⟩=>hm pins s2 σ H2 x vs v us Q I2 r1 r2 q2
/- xs.append(e),list.index on a module's tuple .. are MtR facts of 06m -/
end
end L2

namespace L2
open PySem PySem.Spec PyProof.Rows

def MtM (X:Cx) (id:String) (r:V→List V→Hp→VK→Prop):Prop :=
  ∀ (pins:List (Addr×Obj)) (s:Shared) (σ:St) (H:Hp) (x:V) (xs:List V) (v:Value) (us:List Value) (Q:VK),Inv X pins σ H s→RelV x v→Vals xs us→r x xs H Q →
    wpAny (model X.prog X.w) X.A (call (.builtin id) (v::us)) (EP X pins σ Q) X.xe s

theorem Vals.one:∀ {x:V} {us:List Value},Vals [x] us→∃ u,us = [u]∧RelV x u
  | _,_,.cons r .nil=>⟨_,rfl,r⟩
theorem Vals.zero:∀ {us:List Value},Vals [] us→us = []
  | _,.nil=>rfl
theorem Vals.dropLast {xs:List V} {us:List Value} (h:Vals xs us):Vals xs.dropLast us.dropLast:=by
  induction h with
  | nil=>exact .nil
  | cons r t ih =>
    cases t with
    | nil=>exact .nil
    | cons q t'=>exact .cons r ih
theorem Vals.eraseIdx:∀ {xs:List V} {us:List Value} (i:Nat),Vals xs us→Vals (xs.eraseIdx i) (us.eraseIdx i)
  | _,_,_,.nil=>.nil
  | _,_,0,.cons _ t=>t
  | _,_,i+1,.cons r t=>.cons r (Vals.eraseIdx i t)
theorem Vals.reverse {xs:List V} {us:List Value} (h:Vals xs us):Vals xs.reverse us.reverse:=by
  induction h with
  | nil=>exact .nil
  | cons r t ih=>rw [List.reverse_cons,List.reverse_cons]; exact Vals.append ih (.cons r .nil)
theorem Vals.rep {xs:List V} {us:List Value} (h:Vals xs us):∀ k:Nat,Vals (List.replicate k xs).flatten (List.replicate k us).flatten
  | 0=>.nil
  | k+1=>by
    rw [List.replicate_succ,List.replicate_succ,List.flatten_cons,List.flatten_cons]
    exact Vals.append h (Vals.rep h k)
theorem erase_last {α:Type} (l:List α):l.eraseIdx (l.length - 1) = l.dropLast:=by
  induction l with
  | nil=>rfl
  | cons a r ih =>
    cases r with
    | nil=>rfl
    | cons b r =>
      have e:(a::b::r).length - 1 = ((b::r).length - 1)+1:=by
        have h1:(a::b::r).length = r.length+2:=rfl
        have h2:(b::r).length = r.length+1:=rfl
        omega
      rw [e,List.eraseIdx_cons_succ,ih]
      all_goals rfl
section
variable {X:Cx} {pins:List (Addr×Obj)} {σ:St} {H:Hp} {s:Shared} {l b:Addr} {xs ys zs:List V}

theorem Inv.lset {its its':List Value} {n:Nat} {f:Array Value→Array Value} {t':Nat} (I:Inv X pins σ H s) (hH:H l = some (.lst xs))
    (e:s.heap.get? l = some { cls:=.type "list",data:=.seq its.toArray n }) (hf:f its.toArray = its'.toArray) (hv:Vals ys its') (hz:ys.length≤sizeLine) :
    Inv X pins σ (upd H l (.lst ys)) { s with heap:=s.heap.update l (Obj.mapSeq f),toks:=t' }:=by
  have q:=PySem.IsL.update e f
  rw [hf] at q
  refine I.write (x:=l) (e:=l) (by rw [hH]; exact trivial) (.inl rfl) (fun b' u hb hu=>(Heap.get?_update_other s.heap (Obj.mapSeq f) (Ne.symm hb)).trans hu) ⟨_,q⟩ ?_
  exact ⟨hz,its',_,hv,q⟩
theorem Inv.lnew {its:List Value} {t':Nat} (I:Inv X pins σ H s) (hv:Vals ys its) (hz:ys.length≤sizeLine) :
    Inv X pins σ (upd H s.heap.objs.size (.lst ys)) { s with heap:=s.heap.push { cls:=.type "list",data:=.seq its.toArray },toks:=t' } :=
  I.laid (fun _ _ q=>Heap.get?_push_of_some _ q) (Nat.le_refl _) ⟨hz,its,0,hv,Heap.get?_push_size _ rfl⟩
theorem Inv.fresh (I:Inv X pins σ H s):H s.heap.objs.size = none:=I.hok.fresh (Nat.le_refl _)
theorem Inv.lstM (I:Inv X pins σ H s) (hH:H l = some (.lst xs)):xs.length≤sizeLine∧∃ (its:List Value) (n:Nat),Vals xs its∧xs.length = its.length∧s.heap.get? l = some { cls:=.type "list",data:=.seq its.toArray n }:=by
  obtain ⟨z,its,n,r,e⟩:=I.hok l _ hH
  exact ⟨z,its,n,r,r.length,e⟩

theorem notLongL {n:Nat} (h:n≤sizeLine):Builtin.List.listTooLong n = false:=by
  unfold Builtin.List.listTooLong
  exact decide_eq_false (by omega)
end

section
variable {X:Cx}

def rAppend:V→List V→Hp→VK→Prop:=fun x vs H Q=>∃ l xs y,x = .ref l∧vs = [y]∧H l = some (.lst xs)∧xs.length < sizeLine∧Q .non (upd H l (.lst (xs++[y])))
theorem mt_append:MtM X "list.append" rAppend:=by
  intro pins s σ H x vs v us Q I rx rv h
  obtain ⟨l,xs,y,rfl,rfl,hH,hz,q⟩:=h
  cases rx
  obtain ⟨u,rfl,ru⟩:=rv.one
  obtain ⟨z,its,n,r,hl,e⟩:=I.lstM hH
  refine call_meets F.slot_list_append ⟨_,e,rfl⟩ F.entry_list_append (F.args_list_append_2 _ _) (PySem.list_append l its.toArray n u (by rw [List.size_toArray]; omega)) ⟨e,?_⟩
  refine ⟨.non,_,I.lset (its':=its++[u]) hH e (by simp) (r.append (.cons ru .nil)) ?_,rfl,q⟩
  rw [List.length_append,List.length_singleton]
  omega

def rExtend:V→List V→Hp→VK→Prop:=fun x vs H Q=>∃ l b xs zs,x = .ref l∧vs = [.ref b]∧H l = some (.lst xs)∧H b = some (.lst zs)∧xs.length+zs.length≤sizeLine∧Q .non (upd H l (.lst (xs++zs)))
theorem mt_extend:MtM X "list.extend" rExtend:=by
  intro pins s σ H x vs v us Q I rx rv h
  obtain ⟨l,b,xs,zs,rfl,rfl,hH,hB,hz,q⟩:=h
  cases rx
  obtain ⟨u,rfl,ru⟩:=rv.one
  cases ru
  obtain ⟨z,its,n,r,hl,e⟩:=I.lstM hH
  obtain ⟨z2,its2,n2,r2,hl2,e2⟩:=I.lstM hB
  have hsz:its.toArray.size+its2.toArray.size≤sizeLine:=by rw [List.size_toArray,List.size_toArray]; omega
  have hlong:¬ (!its.toArray.isEmpty && Builtin.List.listTooLong (its.toArray.size+its2.toArray.size)) = true:=by
    rw [notLongL hsz,Bool.and_false]
    exact Bool.false_ne_true
  refine call_meets F.slot_list_extend ⟨_,e,rfl⟩ F.entry_list_extend (F.args_list_extend_2 _ _)
    (AutoSeq1.list_extend_list_list_0 l its.toArray n b its2.toArray n2 hlong (by rw [List.size_toArray]; omega) (by omega)) ⟨e,e2,?_⟩
  refine ⟨.non,_,I.lset (its':=its++its2) hH e (by simp) (r.append r2) ?_,rfl,q⟩
  rw [List.length_append]
  omega

def rPop:V→List V→Hp→VK→Prop:=fun x vs H Q=>∃ l xs y,x = .ref l∧vs = []∧H l = some (.lst xs)∧xs[xs.length - 1]? = some y∧Q y (upd H l (.lst xs.dropLast))
theorem mt_pop:MtM X "list.pop" rPop:=by
  intro pins s σ H x vs v us Q I rx rv h
  obtain ⟨l,xs,y,rfl,rfl,hH,hy,q⟩:=h
  cases rx
  have hus:=rv.zero
  subst hus
  obtain ⟨z,its,n,r,hl,e⟩:=I.lstM hH
  obtain ⟨u,hu,ru⟩:=r.get hy
  have hy':its.toArray[its.toArray.size - 1]? = some u:=by
    show its.toArray[its.length - 1]? = some u
    rw [← Array.getElem?_toList,← hl]
    exact hu
  refine call_meets F.slot_list_pop ⟨_,e,rfl⟩ F.entry_list_pop (F.args_list_pop_1 _) (MeetsSeq.list_pop_last l its.toArray n u hy' (by rw [List.size_toArray]; omega)) ⟨e,?_⟩
  refine ⟨y,_,I.lset (its':=its.dropLast) hH e ?_ r.dropLast ?_,ru,q⟩
  · show its.toArray.eraseIdxIfInBounds (its.toArray.size - 1) = its.dropLast.toArray
    rw [List.size_toArray,List.eraseIdxIfInBounds_toArray,erase_last]
  · rw [List.length_dropLast]
    omega

def rClear:V→List V→Hp→VK→Prop:=fun x vs H Q=>∃ l xs,x = .ref l∧vs = []∧H l = some (.lst xs)∧Q .non (upd H l (.lst []))
theorem mt_clear:MtM X "list.clear" rClear:=by
  intro pins s σ H x vs v us Q I rx rv h
  obtain ⟨l,xs,rfl,rfl,hH,q⟩:=h
  cases rx
  have hus:=rv.zero
  subst hus
  obtain ⟨z,its,n,r,hl,e⟩:=I.lstM hH
  refine call_meets F.slot_list_clear ⟨_,e,rfl⟩ F.entry_list_clear (F.args_list_clear_1 _) (AutoSeq1.list_clear_list_0 l its.toArray n (by rw [List.size_toArray]; omega)) ⟨e,?_⟩
  exact ⟨.non,_,I.lset (its':=[]) (ys:=[]) hH e rfl .nil (Nat.zero_le _),rfl,q⟩

def rCat:R2:=fun x y H Q=>∃ l b xs zs,x = .ref l∧y = .ref b∧H l = some (.lst xs)∧H b = some (.lst zs)∧xs.length+zs.length≤sizeLine∧∀ p,H p = none→Q (.ref p) (upd H p (.lst (xs++zs)))
theorem op_cat:OpR X (binaryOp .Add) rCat:=by
  intro pins s σ H x y v u Q I rx ry h
  obtain ⟨l,b,xs,zs,rfl,rfl,hH,hB,hz,q⟩:=h
  cases rx
  cases ry
  obtain ⟨z,its,n,r,hl,e⟩:=I.lstM hH
  obtain ⟨z2,its2,n2,r2,hl2,e2⟩:=I.lstM hB
  refine PySem.P.add_list e e2 ?_ (by rw [List.size_toArray,List.size_toArray]; omega)
  have ea:its.toArray++its2.toArray = (its++its2).toArray:=by simp
  rw [ea]
  exact ⟨.ref _,_,I.lnew (t':=s.toks) (r.append r2) (by rw [List.length_append]; omega),rfl,q _ I.fresh⟩
end

section
variable {prog:Program} {w:World} {A:Around} {E:Value→Shared→Prop} {s:Shared}
end

section
variable {X:Cx}
end
end L2

namespace L2
open PySem PySem.Spec PyProof.Rows

section
variable {κ:Type} [DecidableEq κ]
def valV (kvs:List (κ×V)) (k:κ):Option V:=(kvs.find? fun kv=>decide (kv.1 = k)).map (·.2)
def putK (kvs:List (κ×V)) (k:κ) (v:V):List (κ×V) :=
  if (kvs.any fun kv=>decide (kv.1 = k)) = true then kvs.map (fun kv=>if kv.1 = k then (kv.1,v) else kv) else kvs++[(k,v)]
def dropK (kvs:List (κ×V)) (k:κ):List (κ×V):=kvs.filter fun kv=>decide (kv.1≠k)

theorem valV_pos {p:κ×V} {r:List (κ×V)} {k:κ} (e:p.1 = k):valV (p::r) k = some p.2:=by simp [valV,List.find?_cons,e]
theorem valV_neg {p:κ×V} {r:List (κ×V)} {k:κ} (e:¬ p.1 = k):valV (p::r) k = valV r k:=by simp [valV,List.find?_cons,e]
theorem valV_any (k:κ):∀ kvs:List (κ×V),(kvs.any fun kv=>decide (kv.1 = k)) = (valV kvs k).isSome
  | []=>rfl
  | p::r=>by
    rw [List.any_cons]
    by_cases e:p.1 = k
    · simp only [valV_pos e,decide_eq_true e,Bool.true_or,Option.isSome_some]
    · rw [valV_neg e,decide_eq_false e,Bool.false_or]; exact valV_any k r
theorem valV_map (k j:κ) (y:V):∀ kvs:List (κ×V),valV (kvs.map fun kv=>if kv.1 = k then (kv.1,y) else kv) j = (valV kvs j).map fun x=>if j = k then y else x
  | []=>rfl
  | p::r=>by
    have ih:=valV_map k j y r
    rw [List.map_cons]
    by_cases h:p.1 = k
    · rw [if_pos h]
      by_cases e:p.1 = j
      · rw [valV_pos (p:=(p.1,y)) e,valV_pos e,Option.map_some,if_pos (e.symm.trans h)]
      · rw [valV_neg (p:=(p.1,y)) e,valV_neg e,ih]
    · rw [if_neg h]
      by_cases e:p.1 = j
      · rw [valV_pos (p:=p) e,valV_pos e,Option.map_some,if_neg (fun z=>h (e.trans z))]
      · rw [valV_neg (p:=p) e,valV_neg e,ih]
theorem valV_snoc (k j:κ) (y:V):∀ kvs:List (κ×V),valV kvs k = none→valV (kvs++[(k,y)]) j = if j = k then some y else valV kvs j
  | [],_=>by
    by_cases e:k = j
    · rw [if_pos e.symm]; exact valV_pos (p:=(k,y)) e
    · rw [if_neg (fun z=>e z.symm)]; exact valV_neg (p:=(k,y)) e
  | p::r,hn=>by
    rw [List.cons_append]
    have hk:¬ p.1 = k:=fun z=>by rw [valV_pos z] at hn; cases hn
    rw [valV_neg hk] at hn
    have ih:=valV_snoc k j y r hn
    by_cases e:p.1 = j
    · rw [valV_pos e,valV_pos e,if_neg (fun z=>hk (e.trans z))]
    · rw [valV_neg e,valV_neg e,ih]
theorem valV_put (kvs:List (κ×V)) (k j:κ) (y:V):valV (putK kvs k y) j = if j = k then some y else valV kvs j:=by
  unfold putK
  by_cases a:(kvs.any fun kv=>decide (kv.1 = k)) = true
  · rw [if_pos a,valV_map]
    rw [valV_any] at a
    by_cases e:j = k
    · obtain ⟨x,hx⟩:=Option.isSome_iff_exists.mp a
      rw [if_pos e,e,hx,Option.map_some,if_pos rfl]
    · rw [if_neg e]
      cases valV kvs j with
      | none=>rfl
      | some x=>rw [Option.map_some,if_neg e]
  · rw [if_neg a]
    refine valV_snoc k j y kvs ?_
    rw [valV_any] at a
    cases q:valV kvs k with
    | none=>rfl
    | some x=>rw [q] at a; exact (a rfl).elim
theorem length_putK (kvs:List (κ×V)) (k:κ) (v:V):(putK kvs k v).length≤kvs.length+1:=by
  unfold putK
  split
  · rw [List.length_map]; omega
  · rw [List.length_append,List.length_cons,List.length_nil]; omega
theorem putK_new {kvs:List (κ×V)} {k:κ} (v:V) (h:valV kvs k = none):putK kvs k v = kvs++[(k,v)]:=by
  unfold putK
  rw [valV_any,h]
  exact if_neg (by decide)

theorem RelO.isSome_eq {o:Option V} {u:Option Value} (r:RelO o u):o.isSome = u.isSome:=by
  cases o with
  | none=>cases u with
    | none=>rfl
    | some _=>exact (show False from r).elim
  | some _=>cases u with
    | none=>exact (show False from r).elim
    | some _=>rfl
theorem RelO.getD {o:Option V} {u:Option Value} {d:V} {d':Value} (r:RelO o u) (rd:RelV d d'):RelV (o.getD d) (u.getD d'):=by
  cases o with
  | none=>cases u with
    | none=>exact rd
    | some _=>exact (show False from r).elim
  | some _=>cases u with
    | none=>exact (show False from r).elim
    | some _=>exact r

theorem KV.val {kvs:List (κ×V)} {vs:List (κ×Value)} (r:KV kvs vs) (k:κ):RelO (valV kvs k) (valueAt vs k):=by
  unfold KV at r
  induction r with
  | nil=>exact True.intro
  | @cons p q ps qs h t ih =>
    obtain ⟨h1,h2⟩:=h
    by_cases e:p.1 = k
    · have e':q.1 = k:=h1.symm.trans e
      have b:valueAt (q::qs) k = some q.2:=by simp [valueAt,List.find?_cons,e']
      rw [valV_pos e,b]; exact h2
    · have e':¬ q.1 = k:=fun z=>e (h1.trans z)
      have b:valueAt (q::qs) k = valueAt qs k:=by simp [valueAt,List.find?_cons,e']
      rw [valV_neg e,b]; exact ih
theorem KV.any {kvs:List (κ×V)} {vs:List (κ×Value)} (r:KV kvs vs) (k:κ):(kvs.any fun kv=>decide (kv.1 = k)) = vs.any fun kv=>decide (kv.1 = k):=by
  unfold KV at r
  induction r with
  | nil=>rfl
  | cons h t ih=>rw [List.any_cons,List.any_cons,ih,h.1]
theorem KV.repl {kvs:List (κ×V)} {vs:List (κ×Value)} (r:KV kvs vs) (k:κ) {y:V} {u:Value} (ry:RelV y u) :
    KV (kvs.map fun kv=>if kv.1 = k then (kv.1,y) else kv) (vs.map fun kv=>if kv.1 = k then (kv.1,u) else kv):=by
  unfold KV at r ⊢
  induction r with
  | nil=>exact .nil
  | @cons p q ps qs h t ih =>
    rw [List.map_cons,List.map_cons]
    refine .cons ?_ ih
    obtain ⟨h1,h2⟩:=h
    by_cases e:p.1 = k
    · rw [if_pos e,if_pos (h1.symm.trans e)]; exact ⟨h1,ry⟩
    · rw [if_neg e,if_neg (fun z=>e (h1.trans z))]; exact ⟨h1,h2⟩
theorem KV.put {kvs:List (κ×V)} {vs:List (κ×Value)} (r:KV kvs vs) (k:κ) {y:V} {u:Value} (ry:RelV y u):KV (putK kvs k y) (stored vs k u):=by
  unfold putK stored
  rw [r.any k]
  by_cases e:(vs.any fun kv=>decide (kv.1 = k)) = true
  · rw [if_pos e,if_pos e]; exact r.repl k ry
  · rw [if_neg e,if_neg e]; exact Paired.snoc r ⟨rfl,ry⟩
theorem KV.drop {kvs:List (κ×V)} {vs:List (κ×Value)} (r:KV kvs vs) (k:κ):KV (dropK kvs k) (without vs k):=by
  unfold KV at r ⊢
  unfold dropK without
  induction r with
  | nil=>exact .nil
  | @cons p q ps qs h t ih =>
    obtain ⟨h1,h2⟩:=h
    rw [List.filter_cons,List.filter_cons]
    by_cases e:p.1 = k
    · have a:¬ decide (p.1≠k) = true:=by simp [e]
      have b:¬ decide (q.1≠k) = true:=by simp [h1.symm.trans e]
      rw [if_neg a,if_neg b]; exact ih
    · have e':¬ q.1 = k:=fun z=>e (h1.trans z)
      have a:decide (p.1≠k) = true:=by simp [e]
      have b:decide (q.1≠k) = true:=by simp [e']
      rw [if_pos a,if_pos b]; exact .cons ⟨h1,h2⟩ ih
theorem KV.length {kvs:List (κ×V)} {vs:List (κ×Value)} (r:KV kvs vs):kvs.length = vs.length:=Paired.length r
end

theorem kV_is {P:Program} {w:World} {k:Key} {u:Value} (r:RelV (kV k) u):(mixKind P w).is k u = true:=by
  cases k with
  | inl i=>obtain ⟨t,e⟩:=(show ∃ t,u = Value.int i t from r); subst e; exact mixKind_int P w i t
  | inr x=>obtain ⟨t,e⟩:=(show ∃ t,u = Value.str x t from r); subst e; exact mixKind_str P w x t
theorem items_are {P:Program} {w:World}:∀ {ks:List Key} {us:List Value},Vals (ks.map kV) us→ItemsAre (mixKind P w) ks us
  | [],_,r=>by rw [List.map_nil] at r; cases r; exact .nil
  | k::ks,_,r=>by
    rw [List.map_cons] at r
    cases r with
    | cons h t=>exact .cons (kV_is h) (items_are t)

abbrev KT (H:Hp):List (List Key×V)→List (List Key×Addr×Value)→Prop:=Paired fun p q=>p.1 = q.1∧H q.2.1 = some (.tup (p.1.map kV))∧RelV p.2 q.2.2
theorem KT.val {H:Hp} {kvs:List (List Key×V)} {xs:List (List Key×Addr×Value)} (r:KT H kvs xs) (k:List Key):RelO (valV kvs k) ((atKey xs k).map (·.2)):=by
  induction r with
  | nil=>exact True.intro
  | @cons p q ps qs h t ih =>
    obtain ⟨h1,_,h2⟩:=h
    by_cases e:p.1 = k
    · have e':q.1 = k:=h1.symm.trans e
      have b:atKey (q::qs) k = some q.2:=by simp [atKey,List.find?_cons,e']
      rw [valV_pos e,b]; exact h2
    · have e':¬ q.1 = k:=fun z=>e (h1.trans z)
      have b:atKey (q::qs) k = atKey qs k:=by simp [atKey,List.find?_cons,e']
      rw [valV_neg e,b]; exact ih
theorem KT.repl {H:Hp} {kvs:List (List Key×V)} {xs:List (List Key×Addr×Value)} (r:KT H kvs xs) (k:List Key) {y:V} {u:Value} (ry:RelV y u) :
    KT H (kvs.map fun kv=>if kv.1 = k then (kv.1,y) else kv) (xs.map (putAt k u)):=by
  induction r with
  | nil=>exact .nil
  | @cons p q ps qs h t ih =>
    rw [List.map_cons,List.map_cons]
    refine .cons ?_ ih
    obtain ⟨h1,h2,h3⟩:=h
    unfold putAt
    by_cases e:p.1 = k
    · rw [if_pos e,if_pos (h1.symm.trans e)]; exact ⟨h1,h2,ry⟩
    · rw [if_neg e,if_neg (fun z=>e (h1.trans z))]; exact ⟨h1,h2,h3⟩
theorem KT.put {H:Hp} {kvs:List (List Key×V)} {xs:List (List Key×Addr×Value)} (r:KT H kvs xs) (k:List Key) {b:Addr} {y:V} {u:Value} (hb:H b = some (.tup (k.map kV))) (ry:RelV y u) :
    KT H (putK kvs k y) (storedH xs k b u):=by
  have e:(kvs.any fun kv=>decide (kv.1 = k)) = (atKey xs k).isSome:=by
    rw [valV_any,(r.val k).isSome_eq,Option.isSome_map]
  unfold putK storedH
  rw [e]
  by_cases q:(atKey xs k).isSome = true
  · rw [if_pos q,if_pos q]; exact r.repl k ry
  · rw [if_neg q,if_neg q]; exact Paired.snoc r ⟨rfl,hb,ry⟩
theorem KT.keeps {H H':Hp} {kvs:List (List Key×V)} {xs:List (List Key×Addr×Value)} (r:KT H kvs xs) (ht:∀ b ys,H b = some (.tup ys)→H' b = some (.tup ys)):KT H' kvs xs :=
  Paired.mapP r fun _ _ z=>⟨z.1,ht _ _ z.2.1,z.2.2⟩

section
variable {P:Program} {w:World} {H:Hp} {h:Heap} {a:Addr}
theorem rd_of {u:HO} (ok:HOk P w H h) (e:Rd H a u):ObjOk P w H h a u:=e.ok ok
theorem dk_rd {kvs:List (Key×V)} (ok:HOk P w H h) (e:Rd H a (.dK kvs)):kvs.length≤sizeLine∧(a == sysModules) = false∧∃ vs,KV kvs vs∧h.DictOf (mixKind P w) a vs :=
  show ObjOk P w H h a (.dK kvs) from rd_of ok e
theorem dk_of {kvs:List (Key×V)} (ok:HOk P w H h) (e:H a = some (.dK kvs)):kvs.length≤sizeLine∧(a == sysModules) = false∧∃ vs,KV kvs vs∧h.DictOf (mixKind P w) a vs:=dk_rd ok (.inl e)
theorem key_of {ks:List Key} (ok:HOk P w H h) (e:H a = some (.tup (ks.map kV))):(tupleKind (mixKind P w)).is h ks a:=by
  obtain ⟨_,its,r,o,h1,h2,n,h3⟩:=(show ObjOk P w H h a (.tup (ks.map kV)) from ok a _ e)
  exact ⟨o,its.toArray,n,h1,h2,h3,by simpa using items_are r⟩
theorem dt_rd {kvs:List (List Key×V)} (ok:HOk P w H h) (e:Rd H a (.dT kvs)):kvs.length≤sizeLine∧(a == sysModules) = false ∧
    ∃ xs,KT H kvs xs∧h.DictOfH (tupleKind (mixKind P w)) a xs:=by
  obtain ⟨z,y,xs,r,o,es,ep,h1,h2,h3,h4,h5⟩:=(show ObjOk P w H h a (.dT kvs) from rd_of ok e)
  refine ⟨z,y,xs,r,o,es,ep,h1,h2,h3,h4,fun x hx=>?_,h5⟩
  have all:∀ {l:List (List Key×V)} {m:List (List Key×Addr×Value)},KT H l m→∀ x∈m,(tupleKind (mixKind P w)).is h x.1 x.2.1:=by
    intro l m q
    induction q with
    | nil=>intro x hx; exact nomatch hx
    | @cons p q ps qs hq t ih =>
      intro x hx
      rcases List.mem_cons.mp hx with e | hx
      · subst e
        exact key_of ok (by rw [← hq.1]; exact hq.2.1)
      · exact ih x hx
  exact all r x hx
theorem dt_of {kvs:List (List Key×V)} (ok:HOk P w H h) (e:H a = some (.dT kvs)):kvs.length≤sizeLine∧(a == sysModules) = false ∧
    ∃ xs,KT H kvs xs∧h.DictOfH (tupleKind (mixKind P w)) a xs:=dt_rd ok (.inl e)
end

def DGet (H:Hp) (a:Addr) (y:V) (r:Option V):Prop :=
  (∃ kvs k,Rd H a (.dK kvs)∧y = kV k∧r = valV kvs k)∨∃ kvs k b,Rd H a (.dT kvs)∧y = .ref b∧H b = some (.tup (k.map kV))∧r = valV kvs k
def DPut (H:Hp) (a:Addr) (y v:V) (H':Hp):Prop :=
  (∃ kvs k,H a = some (.dK kvs)∧y = kV k∧kvs.length < sizeLine∧H' = upd H a (.dK (putK kvs k v))) ∨
  ∃ kvs k b,H a = some (.dT kvs)∧y = .ref b∧H b = some (.tup (k.map kV))∧kvs.length < sizeLine∧H' = upd H a (.dT (putK kvs k v))
theorem DGet.k {H:Hp} {a:Addr} {kvs:List (Key×V)} {k:Key} (e:H a = some (.dK kvs)):DGet H a (kV k) (valV kvs k):=.inl ⟨kvs,k,.inl e,rfl,rfl⟩
theorem DGet.t {H:Hp} {a b:Addr} {kvs:List (List Key×V)} {k:List Key} (e:H a = some (.dT kvs)) (eb:H b = some (.tup (k.map kV))):DGet H a (.ref b) (valV kvs k):=.inr ⟨kvs,k,b,.inl e,rfl,eb,rfl⟩
theorem DPut.k {H:Hp} {a:Addr} {kvs:List (Key×V)} {k:Key} {v:V} (e:H a = some (.dK kvs)) (hl:kvs.length < sizeLine):DPut H a (kV k) v (upd H a (.dK (putK kvs k v))):=.inl ⟨kvs,k,e,rfl,hl,rfl⟩
theorem DPut.t {H:Hp} {a b:Addr} {kvs:List (List Key×V)} {k:List Key} {v:V} (e:H a = some (.dT kvs)) (eb:H b = some (.tup (k.map kV))) (hl:kvs.length < sizeLine) :
    DPut H a (.ref b) v (upd H a (.dT (putK kvs k v))):=.inr ⟨kvs,k,b,e,rfl,eb,hl,rfl⟩

section
variable {X:Cx} {pins:List (Addr×Obj)} {σ:St} {H:Hp} {s:Shared} {a:Addr} {y v:V} {u r:Value} {o:Option V} {A:Around} {E:Value→Shared→Prop}

theorem Inv.big (I:Inv X pins σ H s):sysModules < s.heap.objs.size:=by
  have h:mainGlobals < s.heap.objs.size:=(I.mod.glob.keeps I.bk).lt
  exact Nat.lt_trans (by decide) h

theorem d_getItem {Q:Value→Shared→Prop} (hu:A.units+1 < cLine) (I:Inv X pins σ H s) (g:DGet H a y (some v)) (ry:RelV y u) (h:∀ w' s',Inv X pins σ H s'→RelV v w'→Q w' s') :
    wpAny (model X.prog X.w) A (getItem (.ref a) u) Q E s:=by
  rcases g with ⟨kvs,k,e,ey,l⟩ | ⟨kvs,k,b,e,ey,eb,l⟩
  · subst ey
    obtain ⟨z,hd,vs,rel,dd⟩:=dk_rd I.hok e
    obtain ⟨w',hw,rw'⟩:=RelO.some_of (v:=v) (o:=valueAt vs k) (by rw [l]; exact rel.val k)
    exact wpAny_getItem_of (kV_is ry) dd.mapOf hw (h w' _ (I.tok _) rw')
  · subst ey
    cases (show u = Value.ref b from ry)
    obtain ⟨z,hd,xs,rel,dd⟩:=dt_rd I.hok e
    obtain ⟨w',hw,rw'⟩:=RelO.some_of (v:=v) (o:=(atKey xs k).map (·.2)) (by rw [l]; exact rel.val k)
    obtain ⟨p,hp,hp2⟩:=Option.map_eq_some_iff.mp hw
    refine wpAny_getItem_heap (tupleKind_room_in1 hu) (key_of I.hok eb) dd hp ?_
    rw [hp2]
    exact h w' _ (I.tok _) rw'
theorem d_in {Q:Value→Shared→Prop} (hu:A.units+1 < cLine) (I:Inv X pins σ H s) (g:DGet H a y o) (ry:RelV y u) (h:∀ s',Inv X pins σ H s'→Q (.bool o.isSome) s') :
    wpAny (model X.prog X.w) A (compareOp .In u (.ref a)) Q E s:=by
  rcases g with ⟨kvs,k,e,ey,l⟩ | ⟨kvs,k,b,e,ey,eb,l⟩
  · subst ey
    obtain ⟨z,hd,vs,rel,dd⟩:=dk_rd I.hok e
    refine wpAny_in_of (kV_is ry) hd dd.mapOf ?_
    rw [← (rel.val k).isSome_eq,← l]
    exact h _ (I.tok _)
  · subst ey
    cases (show u = Value.ref b from ry)
    obtain ⟨z,hd,xs,rel,dd⟩:=dt_rd I.hok e
    refine wpAny_in_heap (tupleKind_room_in1 hu) (key_of I.hok eb) hd dd ?_
    have q:=(rel.val k).isSome_eq
    rw [Option.isSome_map] at q
    rw [← q,← l]
    exact h _ (I.tok _)
theorem d_notIn {Q:Value→Shared→Prop} (hu:A.units+1 < cLine) (I:Inv X pins σ H s) (g:DGet H a y o) (ry:RelV y u) (h:∀ s',Inv X pins σ H s'→Q (.bool (!o.isSome)) s') :
    wpAny (model X.prog X.w) A (compareOp .NotIn u (.ref a)) Q E s:=by
  rcases g with ⟨kvs,k,e,ey,l⟩ | ⟨kvs,k,b,e,ey,eb,l⟩
  · subst ey
    obtain ⟨z,hd,vs,rel,dd⟩:=dk_rd I.hok e
    refine wpAny_notIn_of (kV_is ry) hd dd.mapOf ?_
    rw [← (rel.val k).isSome_eq,← l]
    exact h _ (I.tok _)
  · subst ey
    cases (show u = Value.ref b from ry)
    obtain ⟨z,hd,xs,rel,dd⟩:=dt_rd I.hok e
    refine wpAny_notIn_heap (tupleKind_room_in1 hu) (key_of I.hok eb) hd dd ?_
    have q:=(rel.val k).isSome_eq
    rw [Option.isSome_map] at q
    rw [← q,← l]
    exact h _ (I.tok _)
theorem d_write {h':Heap} {t':Nat} {ob:HO} (I:Inv X pins σ H s) (mu:Mut (H a)) (hs:Heap.SameBut a s.heap h') (he:∃ q,h'.get? a = some q) (new:ObjOk X.prog X.w (upd H a ob) h' a ob) :
    Inv X pins σ (upd H a ob) { s with heap:=h',toks:=t' } :=
  I.write (x:=a) (e:=a) mu (.inl rfl) (fun b q hb z=>(hs.2 b hb).trans z) he new
theorem dk_new {P:Program} {w:World} {H':Hp} {h':Heap} {kvs:List (Key×V)} {vs:List (Key×Value)} (z:kvs.length≤sizeLine) (hd:(a == sysModules) = false) (rel:KV kvs vs) (dd:h'.DictOf (mixKind P w) a vs) :
    ObjOk P w H' h' a (.dK kvs):=⟨z,hd,vs,rel,dd⟩
theorem d_setItem {H':Hp} {Q:Unit→Shared→Prop} (hu:A.units+1 < cLine) (I:Inv X pins σ H s) (g:DPut H a y v H') (ry:RelV y u) (rv:RelV v r) (h:∀ s',Inv X pins σ H' s'→Q () s') :
    wpAny (model X.prog X.w) A (setItem (.ref a) u r) Q E s:=by
  rcases g with ⟨kvs,k,e,ey,l,eH⟩ | ⟨kvs,k,b,e,ey,eb,l,eH⟩
  · subst ey eH
    obtain ⟨z,hd,vs,rel,dd⟩:=dk_of I.hok e
    have hz:vs.length≤sizeLine:=by rw [← rel.length]; exact z
    have hl:(putK kvs k v).length≤sizeLine:=by have:=length_putK kvs k v; omega
    refine wpAny_setItem_pairs (hsz:=hz) (kV_is ry) dd fun h' dd' hs=>h _ ?_
    have he:∃ q,h'.get? a = some q:=let ⟨q,_,_,hq,_⟩:=dd'; ⟨q,hq⟩
    exact d_write I (by rw [e]; exact True.intro) hs he (dk_new hl hd (rel.put k rv) dd')
  · subst ey eH
    cases (show u = Value.ref b from ry)
    obtain ⟨z,hd,xs,rel,dd⟩:=dt_of I.hok e
    have hz:xs.length≤sizeLine:=by rw [← Paired.length rel]; exact z
    have hl:(putK kvs k v).length≤sizeLine:=by have:=length_putK kvs k v; omega
    refine wpAny_setItem_heap (hsz:=hz) (tupleKind_room_in1 hu) (key_of I.hok eb) dd fun h' dd' hs=>h _ ?_
    obtain ⟨q,es,ep,hq,h2,h3,h4,_,h5⟩:=dd'
    refine d_write I (by rw [e]; exact True.intro) hs ⟨q,hq⟩ ⟨hl,hd,_,(rel.put k eb rv).keeps fun c ys ec=>?_,q,es,ep,hq,h2,h3,h4,h5⟩
    rw [upd_ne (ne_of ec e (fun z=>nomatch z))]
    exact ec
end

section
variable {X:Cx} {pins:List (Addr×Obj)} {σ:St} {H:Hp} {s:Shared} {a:Addr} {kvs:List (Key×V)} {k:Key} {u:Value} {A:Around} {E:Value→Shared→Prop}
theorem d_len {Q:Value→Shared→Prop} (I:Inv X pins σ H s) (e:Rd H a (.dK kvs)) (h:∀ t s',Inv X pins σ H s'→Q (.int kvs.length t) s'):wpAny (model X.prog X.w) A (call (.builtin "len") [.ref a]) Q E s:=by
  obtain ⟨z,hd,vs,rel,dd⟩:=dk_rd I.hok e
  refine call_len_dict hd dd (by rw [← rel.length]; rw [sizeLine_eq] at z; omega) ?_
  rw [← rel.length]
  exact h _ _ (I.tok _)
end

def NoSl (i:Expr):Prop:=∀ ov iv,subscripted i false ov iv = operate [ov,iv] (getItem ov iv)
theorem subD_of {prog:Program} {w:World} {A:Around} {E:Value→Shared→Prop} {s:Shared} {env:Env} {value slice:Expr} {pos:Pos} {T id:String} {Q:Value→Shared→Prop}
    (hl:typeLookup (.type T) "__getitem__" = pure (some (.builtin id))) (hs:NoSl slice)
    (h:wpAny (model prog w) A (eval value env) (fun o s₁=>wpAny (model prog w) A (eval slice env) (fun i s₂=>s₂.TypeIs o T∧wpAny (model prog w) A (getItem o i) Q E s₂) E s₁) E s) :
    wpAny (model prog w) A (eval (.Subscript value slice pos) env) Q E s:=by
  refine Subscript_ (wpAny_mono h (fun o s₁ h₁=>wpAny_mono h₁ (fun i s₂ h₂=>?_) fun _ _ x=>x) fun _ _ x=>x)
  obtain ⟨hT,h₂⟩:=h₂
  unfold subscriptTail
  refine wpAny_bind ?_
  rw [getitemInPython_of_ne hT.not_modules]
  refine wpAny_bind (wpAny_specialOf hT hl ?_)
  have fin:wpAny (model prog w) A (subscripted slice false o i) (fun r s₃=>wpAny (model prog w) A (letTemporaryGo value o r >>= fun _=>pure r) Q E s₃) E s₂:=by
    rw [hs o i]
    exact wpAny_operating (wpAny_mono h₂ (fun r s₃ h₃=>wpAny_bind (wpAny_letTemporaryGo (wpAny_pure h₃))) fun _ _ x=>x)
  first
    | exact wpAny_pure (wpAny_bind fin)
    | exact wpAny_bind (wpAny_pure (wpAny_bind fin))
    | exact wpAny_bind fin

theorem dict_typeIs {X:Cx} {pins:List (Addr×Obj)} {σ:St} {H:Hp} {s:Shared} {a:Addr} {y:V} {o:Option V} (I:Inv X pins σ H s) (g:DGet H a y o):s.TypeIs (.ref a) "dict":=by
  rcases g with ⟨kvs,k,e,_,_⟩ | ⟨kvs,k,b,e,_,_,_⟩
  · obtain ⟨_,_,vs,_,dd⟩:=dk_rd I.hok e
    exact dd.typeIs
  · obtain ⟨_,_,xs,_,dd⟩:=dt_rd I.hok e
    exact dd.typeIs
def tDGet (td ty:TE):TE:=fun σ H Q=>td σ H fun x H1=>ty σ H1 fun y H2=>∃ a v,x = .ref a∧DGet H2 a y (some v)∧Q v H2
def tDIn (ty td:TE):TE:=fun σ H Q=>ty σ H fun y H1=>td σ H1 fun x H2=>∃ a o,x = .ref a∧DGet H2 a y o∧Q (.bl o.isSome) H2
def tDNotIn (ty td:TE):TE:=fun σ H Q=>ty σ H fun y H1=>td σ H1 fun x H2=>∃ a o,x = .ref a∧DGet H2 a y o∧Q (.bl (!o.isSome)) H2
def sDPut (td ty tv:TE):TS:=fun D σ H=>tv σ H fun v H1=>td σ H1 fun x H2=>ty σ H2 fun y H3=>∃ a H4,x = .ref a∧DPut H3 a y v H4∧D.nx σ H4
section
variable {X:Cx} {o i e value:Expr} {pos pos' tpos:Pos} {td ty tv:TE}
theorem pe_dget (hu:X.A.units+1 < cLine) (ho:PE X o td) (hi:PE X i ty) (hs:NoSl i):PE X (.Subscript o i pos) (tDGet td ty):=by
  intro pins s σ H Q I h
  refine subD_of PySem.F.slot_dict_getitem.lookup hs (thn (ho pins s σ H _ I h) fun u s1 ⟨x,H1,I1,rx,q1⟩=>thn (hi pins s1 σ H1 _ I1 q1) fun iv s2 ⟨y,H2,I2,ry,a,v,ex,g,q2⟩=>?_)
  subst ex
  obtain rfl:u = Value.ref a:=rx
  exact ⟨dict_typeIs I2 g,d_getItem hu I2 g ry fun w' s3 I3 rw'=>⟨v,H2,I3,rw',q2⟩⟩
theorem pc_din (hu:X.A.units+1 < cLine) (hi:PE X i ty) (ho:PE X o td):PC X .In i o (tDIn ty td):=by
  intro pins s σ H Q I h
  refine thn (hi pins s σ H _ I h) fun iv s1 ⟨y,H1,I1,ry,q1⟩=>thn (ho pins s1 σ H1 _ I1 q1) fun u s2 ⟨x,H2,I2,rx,a,ov,ex,g,q2⟩=>?_
  subst ex
  obtain rfl:u = Value.ref a:=rx
  exact d_in hu I2 g ry fun s3 I3=>⟨.bl ov.isSome,H2,I3,rfl,q2⟩
theorem pc_dnotin (hu:X.A.units+1 < cLine) (hi:PE X i ty) (ho:PE X o td):PC X .NotIn i o (tDNotIn ty td):=by
  intro pins s σ H Q I h
  refine thn (hi pins s σ H _ I h) fun iv s1 ⟨y,H1,I1,ry,q1⟩=>thn (ho pins s1 σ H1 _ I1 q1) fun u s2 ⟨x,H2,I2,rx,a,ov,ex,g,q2⟩=>?_
  subst ex
  obtain rfl:u = Value.ref a:=rx
  exact d_notIn hu I2 g ry fun s3 I3=>⟨.bl (!ov.isSome),H2,I3,rfl,q2⟩
theorem ps_dput (hu:X.A.units+1 < cLine) (ho:PE X o td) (hi:PE X i ty) (hv:PE X value tv) (hs:swapsWith value (some (.Subscript o i pos')) pos.line X.env = pure false) :
    PS X (.Assign [.Subscript o i pos'] value pos) (sDPut td ty tv):=by
  intro pins s σ H D I h
  refine wpAny_Assign_Subscript (thn (hv pins s σ H _ I h) fun r s1 ⟨v,H1,I1,rv,q1⟩=>thn (ho pins s1 σ H1 _ I1 q1) fun u s2 ⟨x,H2,I2,rx,q2⟩=>thn (hi pins s2 σ H2 _ I2 q2) fun iv s3 ⟨y,H3,I3,ry,a,H4,ex,g,q3⟩=>?_) hs
  subst ex
  obtain rfl:u = Value.ref a:=rx
  exact d_setItem hu I3 g ry rv fun s4 I4=>⟨σ,H4,I4,q3⟩
end

theorem dk_empty {P:Program} {w:World} {H:Hp} (h:Heap) (hb:sysModules < h.objs.size):ObjOk P w H (h.push { cls:=.type "dict",data:=.dict #[] }) h.objs.size (.dK []) :=
  ⟨Nat.zero_le _,beq_eq_false_iff_ne.mpr (Ne.symm (Nat.ne_of_lt hb)),[],.nil,Heap.DictOf.new h⟩
theorem dt_empty {P:Program} {w:World} {H:Hp} (h:Heap) (hb:sysModules < h.objs.size):ObjOk P w H (h.push { cls:=.type "dict",data:=.dict #[] }) h.objs.size (.dT []) :=
  ⟨Nat.zero_le _,beq_eq_false_iff_ne.mpr (Ne.symm (Nat.ne_of_lt hb)),[],.nil,_,#[],0,Heap.get?_push_size _ rfl,⟨rfl,rfl,rfl⟩,rfl,rfl,List.nodup_nil⟩
def tDNewK:TE:=fun _ H Q=>∀ p,H p = none→Q (.ref p) (upd H p (.dK []))
def tDNewT:TE:=fun _ H Q=>∀ p,H p = none→Q (.ref p) (upd H p (.dT []))
section
variable {X:Cx} {pos:Pos}
theorem pe_dnewK:PE X (.Dict [] [] pos) tDNewK:=fun pins s σ H Q I h =>
  wpAny_Dict_empty ⟨.ref s.heap.objs.size,_,I.laid (a:=s.heap.objs.size) (o:=.dK []) (t':=s.toks) (fun _ _ q=>Heap.get?_push_of_some _ q) (Nat.le_refl _) (dk_empty s.heap I.big),rfl,h _ (I.hok.fresh (Nat.le_refl _))⟩
theorem pe_dnewT:PE X (.Dict [] [] pos) tDNewT:=fun pins s σ H Q I h =>
  wpAny_Dict_empty ⟨.ref s.heap.objs.size,_,I.laid (a:=s.heap.objs.size) (o:=.dT []) (t':=s.toks) (fun _ _ q=>Heap.get?_push_of_some _ q) (Nat.le_refl _) (dt_empty s.heap I.big),rfl,h _ (I.hok.fresh (Nat.le_refl _))⟩
end

def mergeK (kvs more:List (Key×V)):List (Key×V):=more.foldl (fun acc kv=>putK acc kv.1 kv.2) kvs
theorem KV.merge:∀ {more:List (Key×V)} {rs:List (Key×Value)} {kvs:List (Key×V)} {vs:List (Key×Value)},KV more rs→KV kvs vs→KV (mergeK kvs more) (merged vs rs):=by
  intro more rs kvs vs r
  unfold KV at r
  induction r generalizing kvs vs with
  | nil=>intro q; exact q
  | @cons p q ps qs h t ih =>
    intro r0
    have e:KV (putK kvs p.1 p.2) (stored vs q.1 q.2):=by
      have:=r0.put p.1 h.2
      rw [← h.1]; exact this
    exact ih e
theorem length_mergeK:∀ (more kvs:List (Key×V)),(mergeK kvs more).length≤kvs.length+more.length
  | [],kvs=>by show kvs.length≤kvs.length+0; omega
  | p::r,kvs=>by
    have h1:=length_mergeK r (putK kvs p.1 p.2)
    have h2:=length_putK kvs p.1 p.2
    show (mergeK (putK kvs p.1 p.2) r).length≤_
    rw [List.length_cons]; omega
structure M1 (X:Cx) (o:Expr) (m:Str) (apos:Pos) (e:Expr) (cpos:Pos):Prop where
  base:attributeBase o m X.env (eval o X.env) = eval o X.env
  few:((backTo cpos (starEach [e] X.env)).all (fun x=>!x.1) && (backToKw cpos (keywordEach [] X.env)).all (fun x=>x.1.isSome)
    && decide (([e]:List Expr).length+([]:List Keyword).length+(if ([]:List Keyword).isEmpty then 0 else 1) < 30)) = true
  line:(apos.endLine == cpos.line) = true
  trees:backTo cpos (starEach [e] X.env) = [(false,eval e X.env)]
def IsD (H:Hp) (a:Addr):Prop:=(∃ kvs,Rd H a (.dK kvs))∨∃ kvs,Rd H a (.dT kvs)
theorem isD_at {X:Cx} {pins:List (Addr×Obj)} {σ:St} {H:Hp} {s:Shared} {a:Addr} (I:Inv X pins σ H s) (d:IsD H a) :
    s.TypeIs (.ref a) "dict"∧(∀ b,Value.ref a = .ref b→∃ ob,s.heap.get? b = some ob∧ob.dict = none)∧(a == sysModules) = false:=by
  rcases d with ⟨kvs,e⟩ | ⟨kvs,e⟩
  · obtain ⟨_,hd,vs,_,dd⟩:=dk_rd I.hok e
    refine ⟨dd.typeIs,fun b q=>?_,hd⟩
    cases q
    obtain ⟨ob,_,_,h1,h2,_⟩:=dd
    exact ⟨ob,h1,h2.2.1⟩
  · obtain ⟨_,hd,xs,_,dd⟩:=dt_rd I.hok e
    refine ⟨dd.typeIs,fun b q=>?_,hd⟩
    cases q
    obtain ⟨ob,_,_,h1,h2,_⟩:=dd
    exact ⟨ob,h1,h2.2.1⟩

section
variable {X:Cx} {pins:List (Addr×Obj)} {σ:St} {H:Hp} {s:Shared} {a:Addr} {y d:V} {u r:Value} {o:Option V} {A:Around} {E:Value→Shared→Prop}
theorem d_get1 {Q:Value→Shared→Prop} (hu:A.units+1 < cLine) (I:Inv X pins σ H s) (g:DGet H a y o) (ry:RelV y u) (h:∀ w' s',Inv X pins σ H s'→RelV (o.getD .non) w'→Q w' s') :
    wpAny (model X.prog X.w) A (call (.builtin "dict.get") [.ref a,u]) Q E s:=by
  rcases g with ⟨kvs,k,e,ey,l⟩ | ⟨kvs,k,b,e,ey,eb,l⟩
  · subst ey
    obtain ⟨z,hd,vs,rel,dd⟩:=dk_rd I.hok e
    refine call_meetsIn PySem.F.slot_dict_get dd.typeIs PySem.F.entry_dict_get (PySem.F.args_dict_get_2 _ _) (meets_dict_get (mixKind X.prog X.w) a (kV_is ry) hd) ⟨_,dd.mapOf,h _ _ (I.tok _) ?_⟩
    rw [l]
    exact (rel.val k).getD rfl
  · subst ey
    cases (show u = Value.ref b from ry)
    obtain ⟨z,hd,xs,rel,dd⟩:=dt_rd I.hok e
    refine call_meetsIn PySem.F.slot_dict_get dd.typeIs PySem.F.entry_dict_get (PySem.F.args_dict_get_2 _ _) (meetsH_dict_get (tupleKind (mixKind X.prog X.w)) a b hd) ⟨tupleKind_room_in1 hu,k,xs,key_of I.hok eb,dd,h _ _ (I.tok _) ?_⟩
    rw [l]
    exact (rel.val k).getD rfl
end

def tDGet1 (td ty:TE):TE:=fun σ H Q=>td σ H fun x H1=>∃ a,x = .ref a∧IsD H1 a∧ty σ H1 fun y H2=>∃ o,DGet H2 a y o∧Q (o.getD .non) H2
section
variable {X:Cx} {o e f:Expr} {apos cpos:Pos} {td ty tx:TE}
theorem pe_dget1 (hu:X.A.units+1 < cLine) (ho:PE X o td) (he:PE X e ty) (m:M1 X o "get" apos e cpos):PE X (.Call (.Attribute o "get" apos) [e] [] cpos) (tDGet1 td ty):=by
  intro pins s σ H Q I h
  refine wpAny_Call_method m.base m.few m.line PySem.F.plainAttrs_dict PySem.F.slot_dict_get PySem.F.type_dict_get (thn (ho pins s σ H _ I h) fun u s1 ⟨x,H1,I1,rx,a,ex,d,q1⟩=>?_)
  subst ex
  obtain rfl:u = Value.ref a:=rx
  obtain ⟨t1,t2,_⟩:=isD_at I1 d
  refine ⟨t1,t2,?_⟩
  rw [m.trees]
  refine Calls.callWith_builtin rfl (Calls.evalArgs_plain (Calls.spliced_cons (thn (he pins s1 σ H1 _ I1 q1) fun iv s2 ⟨y,H2,I2,ry,ov,g,q2⟩=>Calls.spliced_nil ?_)))
  exact d_get1 hu I2 g ry fun w' s3 I3 rw'=>⟨_,H2,I3,rw',q2⟩
end

section
variable {X:Cx} {pins:List (Addr×Obj)} {σ:St} {H:Hp} {s:Shared} {a:Addr} {kvs:List (Key×V)} {A:Around} {E:Value→Shared→Prop}
end

section
variable {X:Cx} {pins:List (Addr×Obj)} {σ:St} {H:Hp} {s:Shared} {a:Addr} {y:V} {u:Value} {A:Around} {E:Value→Shared→Prop}
end
end L2

namespace Att
open PySem PySem.W PySem.Calls PyProof.Rows

theorem ints_of_wellAll {P:Params} {h:Heap}:∀ (ns:List Int) (vs:List Value),WellAll P h vs (ns.map WData.int)→IntsAre vs ns:=by
  intro ns
  induction ns with
  | nil =>
    intro vs w
    rw [List.map_nil] at w
    cases w
    exact .nil
  | cons n ns ih =>
    intro vs w
    rw [List.map_cons] at w
    cases w with
    | cons a b =>
      cases a
      exact .cons _ _ (ih _ b)

theorem script_of {l:OpenLaw} {n:Nat} (hn:l.most = some n) {P:Params} {h:Heap} {args:List WData} {vals:List Value}
    (hpre:l.row.toRowW.claim.pre args = true) (hwl:WellAll P h vals args) :
    ∃ a vs ns,vals = [Value.ref a]∧args = [WData.list (ns.map WData.int)]∧h.get? a = some { cls:=.type "list",data:=.seq vs.toArray }∧IntsAre vs ns∧ns.length≤n:=by
  have hsh:WShape.hasAll [] args [.list .int] = true:=(pre_splitW hpre).1
  have hc:l.pre.holds [] { args:=args } = true:=(pre_splitW hpre).2
  obtain ⟨d,r,rfl,h1,h2⟩:=hasAllW_cons hsh
  obtain rfl:=hasAllW_nil h2
  obtain ⟨xs,rfl,h3⟩:=hasW_list h1
  obtain ⟨ns,rfl⟩:=items_int h3
  have hlen:ns.length≤n:=by
    unfold OpenLaw.pre at hc
    have h4:(WTm.not (.lt (.lit (.int (n:Int))) (.len (.arg 0)))).holds [] { args:=[.list (ns.map .int)] } = true:=by
      have h4:=(holds_andW hc).1
      rw [hn] at h4
      exact h4
    have h5:=condW_of h4 (w_not (w_lt w_lit (w_len_list (w_arg rfl))))
    rw [List.length_map] at h5
    refine Nat.le_of_not_lt fun q=>?_
    have q':(n:Int) < ((ns.length:Nat):Int):=by omega
    first
      | (rw [decide_eq_true q'] at h5; exact absurd h5 (by decide))
      | (simp at h5; omega)
  cases hwl with
  | cons w1 w2 =>
    cases w2
    cases w1 with
    | list ho hall=>exact ⟨_,_,ns,rfl,rfl,ho,ints_of_wellAll ns _ hall,hlen⟩

theorem post_true (l:OpenLaw) (args:List WData):l.row.toRowW.claim.post args (.bool true) args = true :=
  postW_of (r:=l.row.toRowW) (X:=(true == true))
    (show WShape.has [] (.bool true) .bool = true by first | rfl | decide | simp [WShape.has,WShape.arms,WShape.armsAll])
    (show (WTm.eq .res (.lit (.bool true))).value [] { args:=args,res:=some (.bool true),after:=args } = some (.bool (true == true)) from w_eq_bool (w_res rfl) w_lit) rfl

theorem attach_call {l:OpenLaw} {n:Nat} {q:Program} {loose:List Str} {XP:(Str→Option Value)→Heap→Prop} {YP:World→Heap→Prop} {d:DefRec}
    (hn:l.most = some n) (hdf:d.params.defaults = [])
    (call:∀ (w:World) (s₀ s₁:Shared) (mg mb:Str→Option Value) (fa:Addr) (o:Obj) (pm cd doc:Value) (a:Addr) (vs:List Value) (ns:List Int),
      Ground q loose [] XP w s₀ mg mb s₁.heap→YP w s₁.heap →
      s₁.heap.get? fa = some o→o.data = .func (docDef d.name d.params d.body d.scope pm cd doc)→s₁.heap.CodeRec cd d.name→mg d.name = some (.ref fa) →
      s₁.heap.get? a = some { cls:=.type "list",data:=.seq vs.toArray }→IntsAre vs ns→ns.length≤n→s₁.gens = #[] →
      codeAny (model l.prog w) callerA (.call (.ref fa) ⟨[.ref a],[]⟩) (fun r s'=>r = .ok (.ret (.bool true))∧OldK s₁.heap s'.heap∧s'.os = s₁.os∧AllBare s'.gens) s₁) :
    WalkO q loose XP YP l.row.toRowW d [] (fun f vs=>PySem.call f vs):=by
  intro w s₀ s₁ mg mb G Y fa o pm cd doc dV kV ho hd hcd hD hmg hg args vals as hpre hlay hrd hwl hlo
  obtain rfl:dV = .none:=Dflts.none hD hdf
  obtain rfl:kV = .none:=Dflts.noKw hD
  obtain ⟨a,vs,ns,rfl,rfl,hobj,hints,hlen⟩:=script_of hn hpre hwl
  refine enter_call (codeAny_mono (call w s₀ s₁ mg mb fa o pm cd doc a vs ns G Y ho (fd_plain hd) hcd hmg hobj hints hlen hg) fun r s' hq=>?_)
  obtain ⟨rfl,h2,h3,h4⟩:=hq
  exact ⟨.inl ⟨.bool true,.bool true,[],rfl,fun _=>rfl,.bool true,post_true l _,fun _=>⟨List.Pairwise.nil,fun _ hm=>(nomatch hm)⟩⟩,h2,h3,h4⟩

section
variable {prog:Program} {w:World} {A:Around} {E:Value→Shared→Prop} {s:Shared} {K:Frag}

end
end Att

namespace L2
open PySem PySem.Spec PyProof.Rows

theorem vals_ints:∀ {vs:List Value} {ns:List Int},IntsAre vs ns→Vals (ns.map V.int) vs
  | _,_,.nil=>.nil
  | _,_,.cons n t h=>.cons ⟨t,rfl⟩ (vals_ints h)

def Only (H:Hp):Prop:=∀ b,H b = none∨∃ o xs,H b = some (.frz o (.lst xs))

theorem law_call {P:Program} {w:World} {K:PySem.W.Frag} {mg mb:Str→Option Value} {CX:CXT} {k:Nat} {fa a:Addr} {fd:FuncData} {x:Str} {sp:Sp} {s₁:Shared} {vs:List Value} {ns:List Int}
    (KX:K.In s₁.heap) (hns:s₁.heap.Ns mainGlobals mg) (hb:s₁.heap.Ns builtinsNs mb) (hbb:∀ x:Str,x≠"__name__"→mb x = bootBuiltins x) (hlim:s₁.heap.NoLimit) (hg:s₁.gens = #[])
    (ha:s₁.heap.get? a = some { cls:=.type "list",data:=.seq vs.toArray }) (hi:IntsAre vs ns) (hl:ns.length≤sizeLine) (hr:Room k callerA)
    (F:∀ base:Heap,K.In base→base.Ns mainGlobals mg→FnOk P w K mg base CX k fa fd [x] sp) (hbind:∀ (s:Shared) (u:Value),BindsTo s fd ⟨[u],[]⟩ [(x,u)])
    (hsp:∀ H:Hp,Only H→SqL K H a (ns.map V.int)→sp [.ref a] H (fun v _=>v = .bl true) fun _ _ _=>False)
    (hCX:∀ H e s',CX [] H s₁ (fun _ _ _=>False) e s'→False) :
    codeAny (model P w) callerA (.call (.ref fa) ⟨[.ref a],[]⟩) (fun r s'=>r = .ok (.ret (.bool true))∧OldK s₁.heap s'.heap∧s'.os = s₁.os∧AllBare s'.gens) s₁:=by
  have rv:=vals_ints hi
  have lenV:=hi.length
  -- from an abstract heap in which nothing but the script may be tracked
  have core:∀ H:Hp,Only H→SqL K H a (ns.map V.int)→HOk P w H s₁.heap→(∀ b,H b≠none→b = a)→(H a≠none→K.lookup a = none) →
      codeAny (model P w) callerA (.call (.ref fa) ⟨[.ref a],[]⟩) (fun r s'=>r = .ok (.ret (.bool true))∧OldK s₁.heap s'.heap∧s'.os = s₁.os∧AllBare s'.gens) s₁:=by
    intro H hO hS hok hA hK
    have base_of:∀ {b:Addr} {o:Obj},s₁.heap.get? b = some o→H b = none→(hidT s₁.heap H).get? b = some o:=fun e n=>hidT_get e n
    have noA:∀ {b:Addr} {o:Obj} {es:Array DictEntry} {ep:Nat},s₁.heap.get? b = some o→o.data = .dict es ep→H b = none:=fun {b o es ep} e d=>by
      cases q:H b with
      | none=>rfl
      | some u =>
        have e':b = a:=hA b (by rw [q]; simp)
        subst e'
        rw [ha] at e; cases e
        have d':Data.seq vs.toArray _ = Data.dict es ep:=d
        cases d'
    have nsK:∀ {b:Addr} {m:Str→Option Value},s₁.heap.Ns b m→(hidT s₁.heap H).Ns b m:=fun {b m} ⟨o,es,ep,e,d,r⟩=>⟨o,es,ep,base_of e (noA e d),d,r⟩
    have hKb:K.In (hidT s₁.heap H):=fun b o e=>base_of (KX b o e) (by
      cases q:H b with
      | none=>rfl
      | some u =>
        have e':b = a:=hA b (by rw [q]; simp)
        subst e'
        rw [hK (by rw [q]; simp)] at e; cases e)
    have hM:Mod K mg (hidT s₁.heap H):=⟨hKb,nsK hns,⟨mb,nsK hb,hbb⟩,let ⟨mc,h1,h2⟩:=hlim; ⟨mc,nsK h1,h2⟩⟩
    have e0:Env0 P w K mg (hidT s₁.heap H) callerA [] s₁ H:=⟨rfl,hM,fun b o e=>of_hidT e,Nat.le_of_eq (hidT_size _ _),trivial,fun b hb=>absurd (show b∈([]:List Addr) from hb) (by simp),hok,.of_eq hg⟩
    refine codeAny_mono ((F _ hKb (nsK hns)).run callerA [] s₁ H ⟨[.ref a],[]⟩ [.ref a] [.ref a] _ _ hr e0 (hbind s₁ (.ref a)) (.cons rfl .nil) (hsp H hO hS)) fun r s' h=>?_
    cases r with
    | error e=>exact (hCX H e s' h).elim
    | ok fl =>
      cases fl with
      | next=>exact False.elim h
      | brk=>exact False.elim h
      | cont=>exact False.elim h
      | ret u =>
        obtain ⟨v,H',os,bare,un,hok',r',q⟩:=h
        have q':v = .bl true:=q
        subst q'
        obtain rfl:u = Value.bool true:=r'
        refine ⟨rfl,OldK.of_keep fun b o e=>?_,os,bare⟩
        cases q:H b with
        | none=>exact un.keep b o e q (by intro z; exact absurd (show b∈([]:List Addr) from z) (by simp)) (by simp)
        | some u =>
          rcases hO b with z | ⟨ob,xs,z⟩
          · rw [q] at z; cases z
          · have z2:=un.frzs b ob _ z
            obtain ⟨e1,_⟩:=hok b _ z
            obtain ⟨e2,_⟩:=hok' b _ z2
            rw [e] at e1; cases e1
            exact e2
  cases hk:K.lookup a with
  | some o =>
    -- the script is one of the module's own objects
    have e:=KX a o hk
    rw [ha] at e
    cases e
    refine core (fun _=>none) (fun _=>.inl rfl) (.inr ⟨_,vs.toArray,_,hk,rfl,rfl,rfl,by rw [List.size_toArray,lenV]; exact hl,by simpa using rv⟩) (fun b u z=>by have z':(none:Option HO) = some u:=z; cases z') (fun b z=>absurd rfl z) fun z=>absurd rfl z
  | none =>
    refine core (fun b=>if b = a then some (.frz { cls:=.type "list",data:=.seq vs.toArray } (.lst (ns.map V.int))) else none) (fun b=>?_) (.inl (.inr ⟨{ cls:=.type "list",data:=.seq vs.toArray },if_pos rfl⟩)) (fun b u z=>?_) (fun b z=>?_) fun _=>hk
    · by_cases hb:b = a
      · exact .inr ⟨_,_,if_pos hb⟩
      · exact .inl (if_neg hb)
    · by_cases hb:b = a
      · have z':=(if_pos hb).symm.trans z
        cases z'
        subst hb
        exact ⟨ha,by rw [List.length_map]; exact hl,vs,_,rv,ha⟩
      · have z':=(if_neg hb).symm.trans z
        cases z'
    · by_cases hb:b = a
      · exact hb
      · exact absurd (if_neg hb) z
end L2

namespace L2
open PySem PySem.Spec PyProof.Rows

end L2

namespace L2
open PySem PySem.Spec PyProof.Rows

def defArgs (s:Stmt):Arguments:=match s with
  | .FunctionDef _ a _ _ _ _ _ _ _ _=>a
  | _=>{ posonlyargs:=[],args:=[],vararg:=none,kwonlyargs:=[],kw_defaults:=[],kwarg:=none,defaults:=[] }
def defBody (s:Stmt):List Stmt:=match s with
  | .FunctionDef _ _ b _ _ _ _ _ _ _=>b
  | _=>[]
def defScope (s:Stmt):Scope:=match s with
  | .FunctionDef _ _ _ _ _ _ sc _ _ _=>sc
  | _=>{ kind:=.function,names:=[],isGenerator:=false,isCoroutine:=false }

abbrev CX0:CXT:=fun _ _ _ _ _ _=>False
abbrev E0:XK:=fun _ _ _=>False
theorem pass0 {X:Cx}:Passes CX0 X E0:=fun _ _ _ _ _ _ _ h=>h.elim

structure Fun (K:PySem.W.Frag) (x qual:Str) (st:Stmt) (f:Addr) (fd:FuncData):Prop where
  ex:∃ (oc:Value) (od:Option Addr) (kV doc pm:Value) (an:Option Addr) (cdv ct:Value) (osl:Array (Option Value)),
    fd = PySem.W.fnOf x qual (defArgs st) (defBody st) (defScope st) .none kV doc pm an cdv ct∧K.lookup f = some ⟨oc,od,.func fd,osl⟩∧PySem.W.codeIn K cdv qual = true
  kp:PySem.W.keepIn K (.ref f) = true
section
variable {P:Program} {w:World} {K:PySem.W.Frag} {mg:Str→Option Value} {base:Heap}
theorem Fun.ok {x qual:Str} {st:Stmt} {f:Addr} {fd:FuncData} {N ps:List Str} {k:Nat} {sp:Sp} (F:Fun K x qual st f fd) (S:FnScope N ps (defScope st)) (len:∀ vs H Q E,sp vs H Q E→vs.length = ps.length)
    (hbody:∀ (cdv:Value) (A:Around) (outer:List Env) (s:Shared) (H:Hp) (vs:List V) (Q:VK) (E:XK),Room k (A.deeper (envOfC qual (defScope st) s.heap.objs.size f cdv))→sp vs H Q E →
      ∃ t,PSs (cxOf CX0 P w K mg base N qual (defScope st) f cdv A outer s H E).nox (defBody st) t∧t { nx:=fun _ H'=>Q .non H',rt:=Q } (start N vs) H):FnOk P w K mg base CX0 (k+1) f fd ps sp:=by
  obtain ⟨oc,od,kV,doc,pm,an,cdv,ct,osl,rfl,lk,hcd⟩:=F.ex
  refine fn_of lk hcd S len fun A outer s H vs Q E hr hsp=>?_
  obtain ⟨t,h,q⟩:=hbody cdv A outer s H vs Q E hr hsp
  exact ⟨t,h.nox,q⟩
theorem fun_mk {x qual:Str} {st:Stmt} {f:Addr} {oc:Value} {od an:Option Addr} {osl:Array (Option Value)} {kV doc pm cdv ct:Value} (l:K.lookup f = some ⟨oc,od,.func (PySem.W.fnOf x qual (defArgs st) (defBody st) (defScope st) .none kV doc pm an cdv ct),osl⟩)
    (c:PySem.W.codeIn K cdv qual = true) (k:PySem.W.keepIn K (.ref f) = true):Fun K x qual st f (PySem.W.fnOf x qual (defArgs st) (defBody st) (defScope st) .none kV doc pm an cdv ct):=⟨⟨oc,od,kV,doc,pm,an,cdv,ct,osl,rfl,l,c⟩,k⟩
end
theorem hu_of {A:Around} {k:Nat} (hr:Room k A):A.units+1 < cLine:=Nat.lt_of_le_of_lt (Nat.add_le_add_left (by decide:1≤64) _) hr.units
theorem small1000 {n:Nat} (h:n≤1000):n < sizeLine:=Nat.lt_of_le_of_lt h (by decide)

section
variable {X:Cx}
theorem pv (i:Nat) {x:Str} {pos:Pos} (hN:X.N[i]? = some x:=by rfl) (hv:Vis X.env.scope x:=by first | exact Or.inl rfl | exact Or.inr (Or.inl rfl) | exact Or.inr (Or.inr rfl)) (hd:(x == ("__debug__":Str)) = false:=by decide)
    (hcd:(x == ("__classdict__":Str)) = false:=by decide):PE X (.Name x pos) (tVar i):=pe_var hN hv hd hcd
end

theorem iteF {A B:Prop} (h:B):if false = true then A else B:=by
  rw [if_neg Bool.false_ne_true]
  exact h
theorem iteT {A B:Prop} (h:A):if true = true then A else B:=by
  rw [if_pos rfl]
  exact h
theorem ite2 {c A B:Prop} [Decidable c] (h1:c→A) (h2:¬ c→B):if c then A else B:=by
  by_cases h:c
  · rw [if_pos h]
    exact h1 h
  · rw [if_neg h]
    exact h2 h
theorem iteNS {c A B:Prop} [Decidable c] (hc:c) (h:B):if (!decide c) = true then A else B:=by
  rw [decide_eq_true hc]
  exact iteF h

def Same (H H':Hp):Prop:=∀ b o,H b = some o→H' b = some o
theorem Same.refl (H:Hp):Same H H:=fun _ _ h=>h
theorem Same.trans {H H1 H2:Hp} (a:Same H H1) (b:Same H1 H2):Same H H2:=fun c o h=>b c o (a c o h)
theorem Same.free {H H':Hp} (e:Same H H') {l:Addr} (h:H' l = Option.none):H l = Option.none:=by
  cases q:H l with
  | none=>rfl
  | some o =>
    rw [e l o q] at h
    cases h
theorem Same.seq {K:PySem.W.Frag} {H H':Hp} {a:Addr} {xs:List V} (e:Same H H') (h:SqL K H a xs):SqL K H' a xs:=by
  rcases h with (h | ⟨o,h⟩) | h
  · exact .inl (.inl (e _ _ h))
  · exact .inl (.inr ⟨o,e _ _ h⟩)
  · exact .inr h

section
variable {X:Cx}
theorem call_lenD:CallR X (.builtin "len") (fun xs H Q=>∃ a kvs,xs = [V.ref a]∧H a = some (.dK kvs)∧Q (.int kvs.length) H):=by
  intro pins s σ H xs us Q I r h
  obtain ⟨a,kvs,rfl,ha,q⟩:=h
  obtain ⟨u,rfl,ru⟩:=vals1 r
  cases ru
  exact d_len I (.inl ha) fun t s' I'=>⟨.int kvs.length,H,I',⟨t,rfl⟩,q⟩
end
section
variable {κ:Type} [DecidableEq κ]
end
end L2

namespace L2
open PySem PySem.Spec PyProof.Rows

abbrev NO:Value→Shared→Prop:=fun _ _=>False
section
variable {prog:Program} {w:World} {A:Around} {R:Result→Shared→Prop}
theorem comp_loop {elt target iter:Expr} {ifs:List Expr} {scope:Scope} {pos:Pos} {it acc:Value} {env:Env} (J:Nat→Shared→Prop)
    (turn:∀ n s,J n s→wpAny (model prog w) A (pyNext it) (fun r s1=>match r with
      | none=>R (.ok .next) s1
      | some v=>wpAny (model prog w) A (letOwnedTupleGo target it v) (fun _ s1=>wpAny (model prog w) A (assign target env v) (fun _ s2 =>
          wpAny (model prog w) A (forIn ifs true fun c r=>if r = true then do let ok ← isTrue c env (eval c env); pure (ForInStep.yield ok) else pure (ForInStep.yield r)) (fun ok s3 =>
            if ok = true then wpAny (model prog w) A (eval elt env) (fun x s4=>wpAny (model prog w) A (call (.builtin "list.append") [acc,x]) (fun _ s5=>∃ m,m < n∧J m s5) NO s4) NO s3
            else ∃ m,m < n∧J m s3) NO s2) NO s1) NO s1) NO s)
    (n:Nat) {s:Shared} (h:J n s):codeAny (model prog w) A (.compLoop (.ListComp elt [⟨target,iter,ifs,0⟩] scope pos) 0 it acc env) R s:=by
  refine codeAny_loop rfl J (fun n s hJ=>?_) n h
  show wpAny _ A ((compTurn (.ListComp elt [⟨target,iter,ifs,0⟩] scope pos) 0 it acc env).onRaise (fun x=>do noteFrame x env; theTreesLotGoes x)) _ _ s
  refine wpAny_noted ?_
  rw [compTurn_list]
  refine wpAny_bind (wpAny_standAt (wpAny_bind (wpAny_mono (turn n s hJ) (fun r s1 h1=>?_) fun _ _ z=>z.elim)))
  cases r with
  | none=>exact wpAny_pure h1
  | some v =>
    refine wpAny_bind (wpAny_mono h1 (fun _ s1 h1=>?_) fun _ _ z=>z.elim)
    refine wpAny_bind (wpAny_mono h1 (fun _ s2 h2=>?_) fun _ _ z=>z.elim)
    refine wpAny_bind (wpAny_mono h2 (fun ok s3 h3=>?_) fun _ _ z=>z.elim)
    cases ok with
    | false=>exact wpAny_pure ⟨rfl,h3⟩
    | true =>
      refine wpAny_bind (wpAny_bind (wpAny_mono h3 (fun x s4 h4=>?_) fun _ _ z=>z.elim))
      exact wpAny_bind (wpAny_mono h4 (fun _ s5 h5=>wpAny_pure (wpAny_pure ⟨rfl,h5⟩)) fun _ _ z=>z.elim)
end

def cxC (X:Cx) (scope:Scope) (cl:List (Str×Addr)) (N:List Str) (C:Addr) (fp:List Addr) (s:Shared) (H:Hp) (pins:List (Addr×Obj)):Cx :=
  { X with N:=N,env:=compEnvC scope cl C X.env,s₀:=s,H₀:=H,outer:=X.stack,ex:=fp,fn:=fun _=>false,pn:=X.pn++pins,xe:=NO }
inductive ClOk (env:Env):List (Str×Addr)→Prop
  | nil:ClOk env []
  | cons {x c r}:env.cells.lookup x = some c→ClOk env r→ClOk env ((x,c)::r)
theorem ClOk.get {env:Env}:∀ {cl:List (Str×Addr)},ClOk env cl→∀ {x c},cl.lookup x = some c→env.cells.lookup x = some c
  | _,.nil,_,_,h=>by cases h
  | _,.cons (x:=y) h1 r,x,c,h=>by
    rw [List.lookup_cons] at h
    split at h
    · rename_i e
      have e':x = y:=eq_of_beq e
      cases h
      rw [e']
      exact h1
    · exact r.get h
inductive FreeOk (cl:List (Str×Addr)):List (Str×NameKind)→Prop
  | nil:FreeOk cl []
  | skip {x k r}:k≠.free→k≠.cell→FreeOk cl r→FreeOk cl ((x,k)::r)
  | free {x r}:(∃ c,cl.lookup x = some c)→FreeOk cl r→FreeOk cl ((x,.free)::r)
theorem FreeOk.get {cl:List (Str×Addr)} {env:Env}:∀ {ns:List (Str×NameKind)},FreeOk cl ns→∀ {x},((ns.map fun (n,k)=>if (k == .free && env.scope.kind == .function && env.kindOf n == some .cell) then (n,.cell) else (n,k)).lookup x = some .cell ∨
    (ns.map fun (n,k)=>if (k == .free && env.scope.kind == .function && env.kindOf n == some .cell) then (n,.cell) else (n,k)).lookup x = some .free)→∃ c,cl.lookup x = some c
  | _,.nil,_,h=>by rcases h with h | h<;>cases h
  | (y,k)::r,.skip h1 h2 q,x,h=>by
    have ek:(k == NameKind.free) = false:=by cases k<;>first | rfl | exact absurd rfl h1
    simp only [List.map_cons,ek,Bool.false_and,Bool.false_eq_true,if_false,List.lookup_cons] at h
    cases e:x == y with
    | true =>
      simp only [e] at h
      rcases h with h | h
      · exact absurd (Option.some.inj h) h2
      · exact absurd (Option.some.inj h) h1
    | false =>
      simp only [e] at h
      exact q.get h
  | (y,_)::r,.free h1 q,x,h=>by
    cases e:x == y with
    | true =>
      rw [eq_of_beq e]
      exact h1
    | false =>
      refine q.get (env:=env) (x:=x) ?_
      have drop:∀ (p:Str×NameKind) (l:List (Str×NameKind)),p.1 = y→(p::l).lookup x = l.lookup x:=fun p l hp=>by
        obtain ⟨p1,p2⟩:=p
        obtain rfl:p1 = y:=hp
        rw [List.lookup_cons,e]
      rw [List.map_cons,drop _ _ (by dsimp only; split<;>rfl)] at h
      exact h
inductive Capt (X:Cx) (scope:Scope) (cl:List (Str×Addr)):List Str→List (Option Nat)→Prop
  | nil:Capt X scope cl [] []
  | tgt {x N c}:Capt X scope cl N c→Capt X scope cl (x::N) (none::c)
  | var {x N c} {j:Nat}:X.N[j]? = some x→(X.env.kindOf x = some .cell∨X.env.kindOf x = some .free)→(∃ a,cl.lookup x = some a) →
      ((relabel scope X.env).names.lookup x = some .cell∨(relabel scope X.env).names.lookup x = some .free)→Capt X scope cl N c→Capt X scope cl (x::N) (some j::c)
def capS (capt:List (Option Nat)) (σ:St):St:=capt.map fun (c:Option Nat)=>c.bind fun (j:Nat)=>(σ[j]?).bind id
theorem Capt.len {X:Cx} {scope:Scope} {cl:List (Str×Addr)}:∀ {N:List Str} {capt:List (Option Nat)},Capt X scope cl N capt→N.length = capt.length
  | _,_,.nil=>rfl
  | _,_,.tgt h=>by rw [List.length_cons,List.length_cons,h.len]
  | _,_,.var _ _ _ _ h=>by rw [List.length_cons,List.length_cons,h.len]
theorem Capt.get {X:Cx} {scope:Scope} {cl:List (Str×Addr)} {σ:St}:∀ {N:List Str} {capt:List (Option Nat)},Capt X scope cl N capt→∀ {i:Nat} {x:Str} {v:V},N[i]? = some x→(capS capt σ)[i]? = some (some v) →
    ∃ j:Nat,X.N[j]? = some x∧σ[j]? = some (some v)∧(X.env.kindOf x = some .cell∨X.env.kindOf x = some .free)∧(∃ a,cl.lookup x = some a) ∧
      ((relabel scope X.env).names.lookup x = some .cell∨(relabel scope X.env).names.lookup x = some .free)
  | _,_,.nil,i,_,_,h,_=>by simp at h
  | _,_,.tgt h,0,_,_,_,e=>by simp [capS] at e
  | _,_,.tgt h,i+1,x,v,e1,e2=>h.get (i:=i) (by simpa using e1) (by simpa [capS] using e2)
  | _,_,.var (j:=j) h1 h2 h3 h4 h,0,x,v,e1,e2=>by
    simp only [List.getElem?_cons_zero,Option.some.injEq] at e1
    subst e1
    refine ⟨j,h1,?_,h2,h3,h4⟩
    simp only [capS,List.map_cons,List.getElem?_cons_zero,Option.bind_some,Option.some.injEq] at e2
    cases q:σ[j]? with
    | none=>rw [q] at e2; cases e2
    | some o=>rw [q] at e2; simpa using e2
  | _,_,.var _ _ _ _ h,i+1,x,v,e1,e2=>h.get (i:=i) (by simpa using e1) (by simpa [capS] using e2)
def PIf (X:Cx) (ifs:List Expr) (t:TT):Prop :=
  ∀ (pins:List (Addr×Obj)) (s:Shared) (σ:St) (H:Hp) (Q:Bool→Hp→Prop),Inv X pins σ H s→t σ H Q →
    wpAny (model X.prog X.w) X.A (forIn ifs true fun c r=>if r = true then do let ok ← isTrue c X.env (eval c X.env); pure (ForInStep.yield ok) else pure (ForInStep.yield r)) (TP X pins σ Q) X.xe s
def tYes:TT:=fun _ H Q=>Q true H
theorem pif_nil {X:Cx}:PIf X [] tYes:=fun _ _ _ H _ I h=>wpAny_tests_nil ⟨H,I,h⟩
theorem pif_one {X:Cx} {c:Expr} {t:TT} (h:PT X c t):PIf X [c] t:=fun pins s σ H Q I hw=>wpAny_tests_one (h pins s σ H Q I hw)
def ExtS:St→St→Prop
  | [],[]=>True
  | none::r,_::q=>ExtS r q
  | some v::r,some u::q=>u = v∧ExtS r q
  | _,_=>False
theorem ExtS.len:∀ {a b:St},ExtS a b→a.length = b.length
  | [],[],_=>rfl
  | none::r,_::q,h=>by rw [List.length_cons,List.length_cons,ExtS.len (a:=r) (b:=q) h]
  | some v::r,some u::q,h=>by rw [List.length_cons,List.length_cons,ExtS.len h.2]
  | [],_::_,h=>h.elim
  | none::_,[],h=>h.elim
  | some _::_,[],h=>h.elim
  | some _::_,none::_,h=>h.elim
theorem ExtS.get:∀ {a b:St},ExtS a b→∀ (i:Nat) (v:V),a[i]? = some (some v)→b[i]? = some (some v)
  | [],[],_,i,v,e=>by simp at e
  | none::r,_::q,h,0,v,e=>by simp at e
  | none::r,_::q,h,i+1,v,e=>by
    have h':ExtS r q:=h
    simpa using h'.get i v (by simpa using e)
  | some w::r,some u::q,h,0,v,e=>by
    obtain ⟨e1,_⟩:u = w∧ExtS r q:=h
    subst e1
    simpa using e
  | some w::r,some u::q,h,i+1,v,e=>by
    have h':ExtS r q:=h.2
    simpa using h'.get i v (by simpa using e)
  | [],_::_,h,_,_,_=>h.elim
  | none::_,[],h,_,_,_=>h.elim
  | some _::_,[],h,_,_,_=>h.elim
  | some _::_,none::_,h,_,_,_=>h.elim
def CompW (J:It) (g:TG) (tc:TT) (te:TE) (σ0:St) (H1:Hp) (Q:VK):Prop:=∀ D,H1 D = none →
  ∃ W:Nat→Nat→List V→Hp→Prop,(∃ m,W 0 m [] (upd H1 D (.lst [])))∧∀ i m ys H2,W i m ys H2→H2 D = some (.lst ys) ∧
    ((J.stop i H2∧Q (.ref D) H2)∨(J.go i H2∧ys.length < sizeLine∧∃ N:List V→Hp→Prop,(∀ ys' H',N ys' H'→∃ m',m' < m∧W (i+1) m' ys' H')∧∀ x H3,J.yld i H2 x H3→g x σ0 H3 fun σ4 H4=>ExtS σ0 σ4∧tc σ4 H4 fun b H5 =>
      if b = true then te σ4 H5 fun y H6=>H6 D = some (.lst ys)∧N (ys++[y]) (upd H6 D (.lst (ys++[y])))
      else N ys H5))
def tComp (wi:TI) (g:TG) (tc:TT) (te:TE) (capt:List (Option Nat)):TE:=fun σ H Q=>wi σ H fun J H1=>CompW J g tc te (capS capt σ) H1 Q
section
variable {X:Cx} {tg iter elt:Expr} {ifs:List Expr} {scope:Scope} {cl:List (Str×Addr)} {N:List Str} {capt:List (Option Nat)} {wi:TI} {g:TG} {tc:TT} {te:TE} {pos:Pos}
theorem cxC_start {pins:List (Addr×Obj)} {σ:St} {H:Hp} {s:Shared} {fp:List Addr} {C:Addr} {h1:Heap} {tk:Nat} {m:Str→Option Value} (I:Inv X pins σ H s) (hf:∀ b∈fp,FpOk X pins H b) (hx:∀ b∈fp,∃ o,s.heap.get? b = some o)
    (hcap:Capt X scope cl N capt) (hok:ClOk X.env cl) (hfr:FreeOk cl scope.names) (hkind:scope.kind = .function) (hC:s.heap.objs.size≤C) (hn:h1.Ns C m) (hk:∀ b o,s.heap.get? b = some o→h1.get? b = some o) :
    Inv (cxC X scope cl N C fp s H pins) [] (capS capt σ) H { s with heap:=h1,toks:=tk }:=by
  have lt:∀ {b:Addr} {o:Obj},s.heap.get? b = some o→b≠C:=fun e=>Nat.ne_of_lt (Nat.lt_of_lt_of_le (Heap.lt_size e) hC)
  have nst:∀ b,b≠X.env.locals→b∉X.fs→b∉frs X.stack:=fun b h1 h2 h3=>(List.mem_cons.mp (I.stkSub b h3)).elim h1 h2
  refine ⟨⟨I.ok.mod,hkind,I.ok.glob,I.ok.blt,hC,fun x y c e1 e2=>I.ok.inj x y c (hok.get e1) (hok.get e2),fun x e=>hfr.get (env:=X.env) e,fun x c e _=>absurd (show false = true from e) Bool.false_ne_true,I.ok.hd,I.ok.frames,.inl rfl,fun b hb=>?_,I.bs,
    Nat.le_trans I.ok.bsz I.sz,fun b o e hb=>?_,fun b hb=>?_,I.stack,I.stkFree⟩,rfl,I.bare,Un.kept hk,⟨m,hn,fun i x v e1 e2 e3=>?_⟩,fun x c e=>?_,I.hok.fresh hC,fun x c e=>I.freeC x c (hok.get e),fun p hp=>?_,I.hok.kept hk,?_⟩
  · obtain ⟨o,e⟩:=hx b hb
    exact ⟨lt e,fun x c e'=>(hf b hb).2.2.2.2.1 x c (hok.get e')⟩
  · rcases (hf b hb).2.2.2.1 with z | z
    · exact I.ok.noex b o e z
    · exact absurd (Nat.lt_of_lt_of_le (Heap.lt_size e) (Nat.le_trans I.ok.bsz z)) (Nat.lt_irrefl _)
  · exact nst b (hf b hb).2.1 (hf b hb).2.2.1
  · obtain ⟨j,hj,hs,hkd,⟨a,ha⟩,hk2⟩:=hcap.get e1 e2
    obtain ⟨m0,_,hl⟩:=I.loc
    obtain ⟨u,r,l⟩:=hl j x v hj hs (.inr hkd)
    refine ⟨u,r,.inr ⟨hk2,a,ha,?_⟩⟩
    rcases l with ⟨k,_⟩ | ⟨_,c,ec,o,eo,ed⟩
    · rcases hkd with z | z
      · rw [z] at k; cases k
      · rw [z] at k; cases k
    · rw [hok.get ha] at ec
      cases ec
      exact ⟨o,hk _ _ eo,ed⟩
  · obtain ⟨v,o,eo,ed⟩:=I.cell x c (hok.get e)
    exact ⟨v,o,hk _ _ eo,ed⟩
  · have hp':p∈X.pn++pins:=by
      have z:p∈(X.pn++pins)++[]:=hp
      simpa using z
    obtain ⟨e,n,ne,nf,d⟩:=I.pin p hp'
    exact ⟨hk _ _ e,n,lt e,nst _ ne nf,d⟩
  · show (capt.map _).length = N.length
    rw [List.length_map,hcap.len]
theorem cxC_end {pins pins':List (Addr×Obj)} {σ σ':St} {H H':Hp} {s s':Shared} {fp:List Addr} {C:Addr} {h':Heap} (I:Inv X pins σ H s) (hf:∀ b∈fp,FpOk X pins H b) (hC:s.heap.objs.size≤C)
    (J:Inv (cxC X scope cl N C fp s H pins) pins' σ' H' s') (sb:Heap.SameBut C s'.heap h'):Inv X pins σ H' { s' with heap:=h' }:=by
  have lt:∀ {b:Addr} {o:Obj},s.heap.get? b = some o→b≠C:=fun e=>Nat.ne_of_lt (Nat.lt_of_lt_of_le (Heap.lt_size e) hC)
  have U:Un (frs X.stack) fp H H' s.heap s'.heap:=J.base
  have hCn:H' C = none:=J.free
  refine I.call' (ch:=fp) J.os ⟨fun b o e n hb hx=>(sb.2 b (lt e)).trans (U.keep b o e n hb hx),fun b o e n hb hx=>?_,U.free,fun b o e hx=>?_,U.tups,U.frzs,U.tbls⟩ (fun b o e=>?_) J.bare fun b hb=>?_
  · obtain ⟨sl,q⟩:=U.slot b o e n hb hx
    exact ⟨sl,(sb.2 b (lt e)).trans q⟩
  · obtain ⟨o',q⟩:=U.there b o e hx
    exact ⟨o',(sb.2 b (lt e)).trans q⟩
  · refine (J.hok b o e).stay (fun c v hc q=>(sb.2 c ?_).trans q) (fun _ q=>q) fun _ _ q=>q
    rcases hc with z | z
    · intro z2
      rw [← z,z2,hCn] at e
      cases e
    · intro z2
      rw [z2,hCn] at z
      cases z
  · obtain ⟨_,f1,_,f3,f4,f5⟩:=hf b hb
    exact ⟨f3,f1,f4,f5⟩
end
end L2

namespace L2
open PySem PySem.Spec PyProof.Rows
section
variable {X:Cx} {tg iter elt:Expr} {ifs:List Expr} {scope:Scope} {cl:List (Str×Addr)} {N:List Str} {capt:List (Option Nat)} {wi:TI} {g:TG} {tc:TT} {te:TE} {pos:Pos}
theorem comp_block {pins:List (Addr×Obj)} {σ:St} {H2:Hp} {s2:Shared} {it:Addr} {fp:List Addr} {tn:Nat→Heap→Prop} {J:It} {Q:V→Hp→Prop} {RR:Value→Addr→Result→Shared→Prop} {E:Value→Shared→Prop} (hc:X.calm = true)
    (hok:ClOk X.env cl) (hfr:FreeOk cl scope.names) (hcap:Capt X scope cl N capt)
    (hg:∀ C fp s H pn,PG (cxC X scope cl N C fp s H pn) tg g) (ht:∀ C fp s H pn,PIf (cxC X scope cl N C fp s H pn) ifs tc) (he:∀ C fp s H pn,PE (cxC X scope cl N C fp s H pn) elt te)
    (hcell:∀ y∈scope.names,y.2≠.cell) (hkind:scope.kind = .function)
    (I2:Inv X pins σ H2 s2) (T:Turn X.prog X.w X.K tg J fp it tn) (st2:tn 0 s2.heap) (f2:∀ b∈fp,FpOk X pins H2 b)
    (h:CompW J g tc te (capS capt σ) H2 Q)
    (hR:∀ D C s' m H',s'.heap.Ns C m→Inv X pins σ H' s'→FpOk X pins H' C→Q (.ref D) H'→RR (.ref D) C (.ok .next) s') :
    wpAny (model X.prog X.w) X.A (newList []) (fun acc s3=>wpAny (model X.prog X.w) X.A (newFunctionEnv scope X.env.globals cl [] X.env.qual none .none (some X.env)) (fun cenv s4 =>
      codeAny (model X.prog X.w) X.A (.compStart (.ListComp elt [⟨tg,iter,ifs,0⟩] scope pos) 0 (.ref it) acc { cenv with scope:=relabel scope X.env }) (RR acc cenv.locals) s4) E s3) E s2:=by
  obtain ⟨W,⟨m0,w0⟩,turn⟩:=h s2.heap.objs.size (I2.hok.fresh (Nat.le_refl _))
  have I3:Inv X pins σ (upd H2 s2.heap.objs.size (.lst [])) { s2 with heap:=s2.heap.push { cls:=.type "list",data:=.seq ([]:List Value).toArray },toks:=s2.toks }:=I2.lnew (its:=[]) .nil (Nat.zero_le _)
  have oz:∀ b∈fp,∃ o,s2.heap.get? b = some o:=fun b hb=>let ⟨o,e,_⟩:=T.obj _ _ st2 b hb; ⟨o,e⟩
  have f3:∀ b∈fp,FpOk X pins (upd H2 s2.heap.objs.size (.lst [])) b:=fun b hb=>by
    obtain ⟨o,e⟩:=oz b hb
    exact ⟨by rw [upd_ne (Nat.ne_of_lt (Heap.lt_size e))]; exact (f2 b hb).1,(f2 b hb).2⟩
  have o3:∀ b∈fp,∃ o,(s2.heap.push { cls:=.type "list",data:=.seq ([]:List Value).toArray }).get? b = some o:=fun b hb=>let ⟨o,e⟩:=oz b hb; ⟨o,Heap.get?_push_of_some _ e⟩
  have st3:tn 0 (s2.heap.push { cls:=.type "list",data:=.seq ([]:List Value).toArray }):=T.keep _ _ _ st2 fun b _ o e=>Heap.get?_push_of_some _ e
  refine wpAny_newObj_type (wpAny_newFunctionEnv hcell (by intro y hy; simp at hy) (fun h1 hns hsb=>?_) hkind)
  dsimp only at hns hsb ⊢
  generalize hG:s2.heap.push { cls:=.type "list",dict:=none,data:=.seq ([]:List Value).toArray } = G at *
  have keep:∀ b o,G.get? b = some o→h1.get? b = some o:=fun b o e=>hsb.extBut b o (Nat.ne_of_lt (Heap.lt_size e)) (Heap.get?_push_of_some _ e)
  have I4:Inv (cxC X scope cl N G.objs.size fp { s2 with heap:=G,toks:=s2.toks } (upd H2 s2.heap.objs.size (.lst [])) pins) [] (capS capt σ) (upd H2 s2.heap.objs.size (.lst [])) { s2 with heap:=h1,toks:=s2.toks+([]:List (Str×Value)).length } :=
    cxC_start (s:={ s2 with heap:=G,toks:=s2.toks }) I3 f3 o3 hcap hok hfr hkind (Nat.le_refl _) hns keep
  have st4:tn 0 h1:=T.keep _ _ _ st3 fun b _ o e=>keep b o e
  -- the iterator's objects in the block's context
  have stat:∀ {H':Hp},(∀ b∈fp,H' b = none)→∀ b∈fp,FpOk (cxC X scope cl N G.objs.size fp { s2 with heap:=G,toks:=s2.toks } (upd H2 s2.heap.objs.size (.lst [])) pins) [] H' b:=fun {H'} hn b hb=>by
    obtain ⟨o,e⟩:=o3 b hb
    refine ⟨hn b hb,Nat.ne_of_lt (Heap.lt_size e),fun z=>(List.mem_cons.mp (I3.stkSub b z)).elim (f3 b hb).2.1 (f3 b hb).2.2.1,.inl hb,fun x c e'=>(f3 b hb).2.2.2.2.1 x c (hok.get e'),fun p hp=>?_⟩
    have z:p∈(X.pn++pins)++[]:=hp
    exact (f3 b hb).2.2.2.2.2 p (by simpa using z)
  have loop:codeAny (model X.prog X.w) X.A (.compLoop (.ListComp elt [⟨tg,iter,ifs,0⟩] scope pos) 0 (.ref it) (.ref s2.heap.objs.size) (compEnvC scope cl G.objs.size X.env)) (RR (.ref s2.heap.objs.size) G.objs.size)
      { s2 with heap:=h1,toks:=s2.toks+([]:List (Str×Value)).length }:=by
    refine comp_loop (fun n s'=>∃ i ys H',Inv (cxC X scope cl N G.objs.size fp { s2 with heap:=G,toks:=s2.toks } (upd H2 s2.heap.objs.size (.lst [])) pins) [] (capS capt σ) H' s'∧tn i s'.heap∧(∀ b∈fp,H' b = none)∧W i n ys H') ?_ m0
      ⟨0,[],_,I4,st4,fun b hb=>(f3 b hb).1,w0⟩
    rintro n s5 ⟨i,ys,H5,I5,st5,fr5,w5⟩
    obtain ⟨hD5,alt⟩:=turn i n ys H5 w5
    rcases alt with ⟨stop,qn⟩ | ⟨go,hlt,N',hN',step⟩
    · refine thn (T.done (cxC X scope cl N G.objs.size fp { s2 with heap:=G,toks:=s2.toks } (upd H2 s2.heap.objs.size (.lst [])) pins) rfl rfl rfl hc i [] s5 _ H5 NO I5 (stat fr5) st5 stop) fun r s6 ⟨hr,I6⟩=>?_
      subst hr
      obtain ⟨m6,hn6,_⟩:=I6.loc
      exact hR _ _ s6 m6 H5 hn6 (cxC_end (s:={ s2 with heap:=G,toks:=s2.toks }) I3 f3 (Nat.le_refl _) I6 (.refl _ _)) (I3.fpOk (Nat.le_refl _) I6.free) qn
    · refine thn (T.item (cxC X scope cl N G.objs.size fp { s2 with heap:=G,toks:=s2.toks } (upd H2 s2.heap.objs.size (.lst [])) pins) rfl rfl rfl hc i [] s5 _ H5 NO I5 (stat fr5) st5 go) fun r s6 ⟨u,hr,h6⟩=>?_
      subst hr
      refine thn h6 fun _ s7 ⟨x,H7,I7,r7,y7,st7,fr7⟩=>?_
      have I7':=I7.pinned (stat fr7) (T.obj _ _ st7)
      refine thn (hg _ _ _ _ _ _ s7 _ H7 x u _ I7' r7 (step x H7 y7)) fun _ s8 ⟨σ8,H8,I8,x8,q8⟩=>?_
      refine thn (ht _ _ _ _ _ _ s8 σ8 H8 _ I8 q8) fun ok s9 ⟨H9,I9,q9⟩=>?_
      have again:∀ {H':Hp} {s':Shared} {ys':List V},Inv (cxC X scope cl N G.objs.size fp { s2 with heap:=G,toks:=s2.toks } (upd H2 s2.heap.objs.size (.lst [])) pins) ([]++pinsAt fp s7.heap) σ8 H' s'→(∃ m',m' < n∧W (i+1) m' ys' H') →
          ∃ m,m < n∧∃ i ys H',Inv (cxC X scope cl N G.objs.size fp { s2 with heap:=G,toks:=s2.toks } (upd H2 s2.heap.objs.size (.lst [])) pins) [] (capS capt σ) H' s'∧tn i s'.heap∧(∀ b∈fp,H' b = none)∧W i m ys H':=fun {H' s' ys'} J' ⟨m',hm,w'⟩=>by
        refine ⟨m',hm,i+1,ys',H',(J'.unpinned).weak x8.len (fun j v e=>x8.get j v e),T.keep _ _ _ st7 fun b hb o e=>(J'.pin (b,o) (List.mem_append_right _ (List.mem_append_right _ (mem_pinsAt hb e)))).1,fun b hb=>?_,w'⟩
        obtain ⟨o,e,_⟩:=T.obj _ _ st7 b hb
        exact (J'.pin (b,o) (List.mem_append_right _ (List.mem_append_right _ (mem_pinsAt hb e)))).2.1
      cases ok with
      | false =>
        rw [if_neg Bool.false_ne_true] at q9 ⊢
        exact again I9 (hN' _ _ q9)
      | true =>
        rw [if_pos rfl] at q9 ⊢
        refine thn (he _ _ _ _ _ _ s9 σ8 H9 _ I9 q9) fun y10 s10 ⟨y,H10,I10,r10,hD10,q10⟩=>?_
        refine thn (mt_append _ s10 σ8 H10 (.ref s2.heap.objs.size) [y] _ _ (fun _ H'=>N' (ys++[y]) H') I10 rfl (.cons r10 .nil) ⟨_,ys,y,rfl,rfl,hD10,hlt,q10⟩) fun _ s11 ⟨_,H11,I11,_,q11⟩=>?_
        exact again I11 (hN' _ _ q11)
  exact codeAny_compStart_list loop (T.self _ 0 _ _ _ st4 loop)
theorem pe_comp (hc:X.calm = true) (hi:PI X tg iter wi) (hclos:closureFor scope X.env = pure cl) (hok:ClOk X.env cl) (hfr:FreeOk cl scope.names) (hcap:Capt X scope cl N capt)
    (hg:∀ C fp s H pn,PG (cxC X scope cl N C fp s H pn) tg g) (ht:∀ C fp s H pn,PIf (cxC X scope cl N C fp s H pn) ifs tc) (he:∀ C fp s H pn,PE (cxC X scope cl N C fp s H pn) elt te)
    (hcell:∀ y∈scope.names,y.2≠.cell:=by decide +kernel) (hkind:scope.kind = .function:=by rfl) (hnames:∀ x∈scope.names,x.2 = .local→scope.names.lookup x.1 = some .local:=by decide +kernel)
    (hs:∀ x,foldedSetIterable iter X.env x = pure x:=by intro _; rfl):PE X (.ListComp elt [⟨tg,iter,ifs,0⟩] scope pos) (tComp wi g tc te capt):=by
  intro pins s σ H Q I h
  rw [eval_ListComp]
  refine wpAny_comprehension_free (use:=none) rfl hs hclos hkind hnames (thn (hi pins s σ H _ I h) fun v s1 h1=>thn h1 fun itv s2 h2=>?_)
  obtain ⟨it,fp,tn,J,H2,e,I2,T,st2,f2,q2⟩:=h2
  subst e
  refine comp_block (RR:=fun acc C=>compPost (model X.prog X.w) X.A X.xe none (EP X pins σ Q) acc C) hc hok hfr hcap hg ht he hcell hkind I2 T st2 f2 q2 fun D C s' m H' hn I' ⟨f0,f1,_,f3,f4,f5⟩ q=>?_
  exact ⟨m,hn,fun h' sb=>⟨.ref D,H',I'.turned (t':=s'.toks) (fun b o hb e=>(sb.2 b hb).trans e) f0 f1 f3 f4 f5,rfl,q⟩⟩
theorem ps_comp {i:Nat} {x:Str} {px spos:Pos} (hN:X.N.Nodup) (hix:X.N[i]? = some x) (hx:Loc X.env.scope x) (hc:X.calm = true) (hi:PI X tg iter wi) (hclos:closureFor scope X.env = pure cl) (hok:ClOk X.env cl) (hfr:FreeOk cl scope.names) (hcap:Capt X scope cl N capt)
    (hg:∀ C fp s H pn,PG (cxC X scope cl N C fp s H pn) tg g) (ht:∀ C fp s H pn,PIf (cxC X scope cl N C fp s H pn) ifs tc) (he:∀ C fp s H pn,PE (cxC X scope cl N C fp s H pn) elt te)
    (hsw:swapsWith (.ListComp elt [⟨tg,iter,ifs,0⟩] scope pos) (some (.Name x px)) spos.line X.env = pure true:=by rfl)
    (hcell:∀ y∈scope.names,y.2≠.cell:=by decide +kernel) (hkind:scope.kind = .function:=by rfl) (hnames:∀ x∈scope.names,x.2 = .local→scope.names.lookup x.1 = some .local:=by decide +kernel)
    (hs:∀ x,foldedSetIterable iter X.env x = pure x:=by intro _; rfl) (hf:X.fn x = true∨X.env.scope.names.lookup x = some .local:=by first | exact .inl rfl | exact .inr rfl | assumption) :
    PS X (.Assign [.Name x px] (.ListComp elt [⟨tg,iter,ifs,0⟩] scope pos) spos) (tAsg (tComp wi g tc te capt) (gName i)):=by
  intro pins s σ H D I h
  rw [exec_Assign_Name_used _ _ _ _ hsw]
  refine wpAny_bind (wpAny_standAt (wpAny_bind ?_))
  show wpAny _ X.A (do let _ ← comprehension (.ListComp elt [⟨tg,iter,ifs,0⟩] scope pos) scope X.env _ (newList []) false (eval iter X.env) (some (assign (.Name x px) X.env))) _ _ s
  refine wpAny_bind (wpAny_mono (wpAny_comprehension_free (use:=some (assign (.Name x px) X.env)) (Q:=fun _ s'=>SP X pins D .next s') rfl hs hclos hkind hnames (thn (hi pins s σ H _ I h) fun v s1 h1=>thn h1 fun itv s2 h2=>?_))
    (fun _ s' hq=>wpAny_pure (wpAny_pure hq)) fun _ _ e=>e)
  obtain ⟨it,fp,tn,J,H2,e,I2,T,st2,f2,q2⟩:=h2
  subst e
  refine comp_block (RR:=fun acc C=>compPost (model X.prog X.w) X.A X.xe (some (assign (.Name x px) X.env)) (fun _ s'=>SP X pins D .next s') acc C) (Q:=fun v H1=>D.nx (σ.set i (some v)) H1) hc hok hfr hcap hg ht he hcell hkind I2 T st2 f2 q2 fun D' C s' m H' hn I' ⟨f0,f1,_,f3,f4,f5⟩ q=>?_
  show wpAny _ _ (assign (.Name x px) X.env (.ref D')) _ _ _
  refine wpAny_assign_Name (store_ok2 I' hN hix hx (show RelV (.ref D') (.ref D') from rfl) (fun s'' I'' ⟨a,sb,ha⟩=>?_) hf)
  have hCa:C≠a:=by
    rcases ha with z | z
    · rw [z]; exact f1
    · exact (f4 x a z).symm
  exact ⟨m,hn.sameBut sb hCa,fun h' sb'=>⟨σ.set i (some (.ref D')),H',I''.turned (t':=s''.toks) (fun b o hb e=>(sb'.2 b hb).trans e) f0 f1 f3 f4 f5,q⟩⟩
end
theorem comp_range {lo:Int} {n:Nat} {g:TG} {tc:TT} {te:TE} {σ0:St} {H:Hp} {Q:VK} (Pv:Addr→Nat→List V→Hp→Prop) (h0:∀ D,H D = none→Pv D 0 [] (upd H D (.lst [])))
    (hl:∀ D i ys H,i≤n→Pv D i ys H→H D = some (.lst ys)∧(i < n→ys.length < sizeLine))
    (hs:∀ D i ys H,i < n→Pv D i ys H→g (.int (lo+i)) σ0 H fun σ4 H4=>ExtS σ0 σ4∧tc σ4 H4 fun b H5=>if b = true then te σ4 H5 fun y H6=>H6 D = some (.lst ys)∧Pv D (i+1) (ys++[y]) (upd H6 D (.lst (ys++[y]))) else Pv D (i+1) ys H5)
    (hd:∀ D ys H,Pv D n ys H→Q (.ref D) H):CompW (Itr lo n) g tc te σ0 H Q:=by
  intro D hD
  refine ⟨fun i m ys H=>m = n - i∧i≤n∧Pv D i ys H,⟨n,by simp,Nat.zero_le _,h0 D hD⟩,?_⟩
  rintro i m ys H2 ⟨rfl,hi,p⟩
  obtain ⟨e,lt⟩:=hl D i ys H2 hi p
  refine ⟨e,?_⟩
  by_cases hlt:i < n
  · refine .inr ⟨hlt,lt hlt,fun ys' H'=>Pv D (i+1) ys' H',fun ys' H' p'=>⟨n - (i+1),by omega,rfl,hlt,p'⟩,fun x H3 y=>?_⟩
    obtain ⟨e1,e2⟩:=y
    subst e1 e2
    exact hs D i ys _ hlt p
  · have z:i = n:=by omega
    subst z
    exact .inl ⟨Nat.le_refl _,hd D ys H2 p⟩
theorem comp_list {K:PySem.W.Frag} {a:Addr} {xs:List V} {g:TG} {tc:TT} {te:TE} {σ0:St} {H:Hp} {Q:VK} (Pv:Addr→Nat→List V→Hp→Prop) (h0:∀ D,H D = none→Pv D 0 [] (upd H D (.lst [])))
    (hl:∀ D i ys H,i≤xs.length→Pv D i ys H→SqL K H a xs∧H D = some (.lst ys)∧(i < xs.length→ys.length < sizeLine))
    (hs:∀ D i x ys H,xs[i]? = some x→Pv D i ys H→g x σ0 H fun σ4 H4=>ExtS σ0 σ4∧tc σ4 H4 fun b H5=>if b = true then te σ4 H5 fun y H6=>H6 D = some (.lst ys)∧Pv D (i+1) (ys++[y]) (upd H6 D (.lst (ys++[y]))) else Pv D (i+1) ys H5)
    (hd:∀ D ys H,Pv D xs.length ys H→Q (.ref D) H):CompW (Itl K a) g tc te σ0 H Q:=by
  intro D hD
  refine ⟨fun i m ys H=>m = xs.length - i∧i≤xs.length∧Pv D i ys H,⟨xs.length,by simp,Nat.zero_le _,h0 D hD⟩,?_⟩
  rintro i m ys H2 ⟨rfl,hi,p⟩
  obtain ⟨sq,e,lt⟩:=hl D i ys H2 hi p
  refine ⟨e,?_⟩
  by_cases hlt:i < xs.length
  · refine .inr ⟨⟨xs,xs[i],sq,by simp [hlt]⟩,lt hlt,fun ys' H'=>Pv D (i+1) ys' H',fun ys' H' p'=>⟨xs.length - (i+1),by omega,rfl,hlt,p'⟩,fun x H3 y=>?_⟩
    obtain ⟨e1,e2⟩:=y
    subst e1
    exact hs D i x ys _ (e2 xs sq) p
  · have z:i = xs.length:=by omega
    subst z
    exact .inl ⟨⟨xs,sq,Nat.le_refl _⟩,hd D ys H2 p⟩
theorem comp_tup {K:PySem.W.Frag} {a:Addr} {xs:List V} {g:TG} {tc:TT} {te:TE} {σ0:St} {H:Hp} {Q:VK} (Pv:Addr→Nat→List V→Hp→Prop) (h0:∀ D,H D = none→Pv D 0 [] (upd H D (.lst [])))
    (hl:∀ D i ys H,i≤xs.length→Pv D i ys H→SqT K H a xs∧H D = some (.lst ys)∧(i < xs.length→ys.length < sizeLine))
    (hs:∀ D i x ys H,xs[i]? = some x→Pv D i ys H→g x σ0 H fun σ4 H4=>ExtS σ0 σ4∧tc σ4 H4 fun b H5=>if b = true then te σ4 H5 fun y H6=>H6 D = some (.lst ys)∧Pv D (i+1) (ys++[y]) (upd H6 D (.lst (ys++[y]))) else Pv D (i+1) ys H5)
    (hd:∀ D ys H,Pv D xs.length ys H→Q (.ref D) H):CompW (Itt K a) g tc te σ0 H Q:=by
  intro D hD
  refine ⟨fun i m ys H=>m = xs.length - i∧i≤xs.length∧Pv D i ys H,⟨xs.length,by simp,Nat.zero_le _,h0 D hD⟩,?_⟩
  rintro i m ys H2 ⟨rfl,hi,p⟩
  obtain ⟨sq,e,lt⟩:=hl D i ys H2 hi p
  refine ⟨e,?_⟩
  by_cases hlt:i < xs.length
  · refine .inr ⟨⟨xs,xs[i],sq,by simp [hlt]⟩,lt hlt,fun ys' H'=>Pv D (i+1) ys' H',fun ys' H' p'=>⟨xs.length - (i+1),by omega,rfl,hlt,p'⟩,fun x H3 y=>?_⟩
    obtain ⟨e1,e2⟩:=y
    subst e1
    exact hs D i x ys _ (e2 xs sq) p
  · have z:i = xs.length:=by omega
    subst z
    exact .inl ⟨⟨xs,sq,Nat.le_refl _⟩,hd D ys H2 p⟩
end L2

namespace Ev
open PySem
def tab (led:Bool) (pl:List Nat):SetTable:={ mask:=7,place:=pl.toArray,dummies:=#[],finger:=0,led:=led,moves:=0,plain:=true }
def r1:List (List Nat):=(List.range 8).map fun a=>[a]
def r2:List (List Nat):=(List.range 8).flatMap fun a=>((List.range 8).filter (fun b=>decide (a < b))).map fun b=>[a,b]
def r3:List (List Nat):=(List.range 8).flatMap fun a=>((List.range 8).filter (fun b=>decide (a < b))).flatMap fun b=>((List.range 8).filter (fun c=>decide (b < c))).map fun c=>[a,b,c]
def rises:Nat→List (List Nat)
  | 0=>[[]]
  | 1=>r1
  | 2=>r2
  | 3=>r3
  | _=>[]
def layOk (led:Bool) (n:Nat) (pl:List Nat) (h:Nat):Bool :=
  match (tab led pl).freeSlot (h:Int) with
  | some (j,false) =>
    let q:=(tab led pl).put j
    decide (q.1 = tab led q.1.place.toList) && (rises (n+1)).contains q.1.place.toList && (q.1.place.size == n+1)
  | _=>false
set_option maxRecDepth 100000 in
theorem lay0:∀ led:Bool,∀ pl∈rises 0,∀ h∈List.range 80,layOk led 0 pl h = true:=by decide +kernel
set_option maxRecDepth 100000 in
theorem lay1:∀ led:Bool,∀ pl∈rises 1,∀ h∈List.range 80,layOk led 1 pl h = true:=by decide +kernel
set_option maxRecDepth 100000 in
theorem lay2:∀ led:Bool,∀ pl∈rises 2,∀ h∈List.range 80,layOk led 2 pl h = true:=by decide +kernel
end Ev

namespace Ev
open PySem
theorem lay_all {n:Nat} (hn:n≤2) (led:Bool) {pl:List Nat} (hp:pl∈rises n) {h:Nat} (hh:h < 80):layOk led n pl h = true:=by
  have hr:h∈List.range 80:=List.mem_range.mpr hh
  match n,hn,hp with
  | 0,_,hp=>exact lay0 led pl hp h hr
  | 1,_,hp=>exact lay1 led pl hp h hr
  | 2,_,hp=>exact lay2 led pl hp h hr
theorem rises_len:∀ n:Nat,n≤3→∀ pl∈rises n,pl.length = n:=by
  intro n hn
  match n,hn with
  | 0,_=>decide +kernel
  | 1,_=>decide +kernel
  | 2,_=>decide +kernel
  | 3,_=>decide +kernel
theorem tab_fits {led:Bool} {n:Nat} (hn:n≤3) {pl:List Nat} (hp:pl∈rises n):(tab led pl).fits n = true:=by
  have hl:=rises_len n hn pl hp
  simp only [SetTable.fits,SetTable.fill,tab,List.size_toArray,hl,Bool.and_eq_true,beq_iff_eq,decide_eq_true_eq]
  exact ⟨trivial,by simp; omega⟩
theorem lay_new {n:Nat} (hn:n≤2) {led:Bool} {pl:List Nat} (hp:pl∈rises n) {h:Nat} (hh:h < 80) {es:Array (Int×Value)} (hes:es.size = n) (x:Value) :
    ∃ pl'∈rises (n+1),∃ p,layNew (tab led pl) es (h:Int) x = (SetTable.insertAt es p ((h:Int),x),tab led pl',false,false):=by
  have ok:=lay_all hn led hp hh
  unfold layOk at ok
  unfold layNew
  split at ok
  · rename_i j e
    rw [e]
    dsimp only at ok ⊢
    simp only [Bool.and_eq_true,decide_eq_true_eq,beq_iff_eq] at ok
    obtain ⟨⟨e1,e2⟩,e3⟩:=ok
    have m:((tab led pl).put j).1.place.toList∈rises (n+1):=List.contains_iff_mem.mp e2
    have sz:(SetTable.insertAt es ((tab led pl).put j).2 ((h:Int),x)).size = n+1:=by
      rw [← Array.length_toList,(SetTable.insertAt_perm _ _ _).length_eq,Array.toList_push,List.length_append,Array.length_toList,hes]
      simp
    have fit:((tab led pl).put j).1.fits (n+1) = true:=by
      rw [e1]
      exact tab_fits (by omega) m
    refine ⟨_,m,((tab led pl).put j).2,?_⟩
    rw [sz]
    unfold SetTable.orStandIn
    rw [fit,if_pos rfl,← e1]
    rfl
  · cases ok

def Mem (ks:List Int) (es:List (Int×Value)):Prop:=PySem.Paired (fun (k:Int) (e:Int×Value)=>∃ t,e = (k,Value.int k t)) ks es
def setObj (es:Array (Int×Value)) (ep:Nat) (t:SetTable):Obj:={ cls:=.type "set",dict:=none,data:=.set es ep t }
theorem hash_small:∀ h∈List.range 80,hashInt ((h:Nat):Int) = ((h:Nat):Int):=by decide +kernel
theorem hash_is {k:Int} (h0:0≤k) (h1:k < 80):hashInt k = k:=by
  have e:k = ((k.toNat:Nat):Int):=by omega
  rw [e]
  exact hash_small _ (List.mem_range.mpr (by omega))
theorem Mem.elems {prog:Program} {w:World}:∀ {ks:List Int} {es:List (Int×Value)},Mem ks es→(∀ k∈ks,0≤k∧k < 80)→ElemsOf (intKind prog w) es
  | _,_,.nil,_=>fun e he=>by simp at he
  | k::ks,_::es,.cons ⟨t,e1⟩ r,hk=>fun e he=>by
    subst e1
    rcases List.mem_cons.mp he with rfl | he
    · exact ⟨⟨k,by simp [intKind,Value.isInt],by
        show k = hashInt k
        rw [hash_is (hk k List.mem_cons_self).1 (hk k List.mem_cons_self).2]⟩,rfl⟩
    · exact Mem.elems r (fun k hm=>hk k (List.mem_cons_of_mem _ hm)) e he
theorem Mem.find {k:Int}:∀ {ks:List Int} {es:List (Int×Value)},Mem ks es→((es.findIdx? fun e=>Value.isInt k e.2).isSome = decide (k∈ks))
  | _,_,.nil=>by simp
  | j::ks,_::es,.cons ⟨t,e1⟩ r=>by
    subst e1
    rw [List.findIdx?_cons]
    by_cases e:j = k
    · subst e
      simp [Value.isInt]
    · have:Value.isInt k (Value.int j t) = false:=by
        simp only [Value.isInt]
        simpa using e
      rw [this]
      have ih:=Mem.find (k:=k) r
      simp only [Bool.false_eq_true,if_false,Option.isSome_map,ih,List.mem_cons]
      have:k≠j:=fun z=>e z.symm
      simp [this]
theorem Mem.take:∀ {ks:List Int} {es:List (Int×Value)} (n:Nat),Mem ks es→Mem (ks.take n) (es.take n)
  | _,_,0,_=>.nil
  | _,_,_+1,.nil=>.nil
  | _,_,n+1,.cons r t=>.cons r (Mem.take n t)
theorem Mem.drop:∀ {ks:List Int} {es:List (Int×Value)} (n:Nat),Mem ks es→Mem (ks.drop n) (es.drop n)
  | _,_,0,r=>r
  | _,_,_+1,.nil=>.nil
  | _,_,n+1,.cons _ t=>Mem.drop n t
theorem Mem.app:∀ {ks js:List Int} {es fs:List (Int×Value)},Mem ks es→Mem js fs→Mem (ks++js) (es++fs)
  | _,_,_,_,.nil,s=>s
  | _,_,_,_,.cons r t,s=>.cons r (Mem.app t s)
structure SetG (h:Heap) (a:Addr) (led:Bool) (ks:List Int):Prop where
  at_:∃ es ep pl,h.get? a = some (setObj es ep (tab led pl))∧Mem ks es.toList∧pl∈rises ks.length
  few:ks.length≤3
  nd:ks.Nodup
  rng:∀ k∈ks,0≤k∧k < 80
section
variable {prog:Program} {w:World} {A:Around} {E:Value→Shared→Prop} {s:Shared}
theorem add_one {a:Addr} {led:Bool} {ks:List Int} {k:Int} {t:Tok} {Q:Bool→Shared→Prop} (S:SetG s.heap a led ks) (h0:0≤k) (h1:k < 80) (h2:ks.length≤2)
    (h:∀ h' ks' b,Heap.SameBut a s.heap h'→SetG h' a led ks'→(∀ x,x∈ks'↔x∈ks∨x = k)→ks'.length≤ks.length+1→Q b { s with heap:=h' }) :
    wpAny (model prog w) A (setAddHashed a (.int k t) (hashInt k)) Q E s:=by
  obtain ⟨es,ep,pl,ho,hm,hp⟩:=S.at_
  have hsz:es.size = ks.length:=by rw [← Array.length_toList]; exact (PySem.Paired.length hm).symm
  have hf:(tab led pl).fits es.size = true:=by rw [hsz]; exact tab_fits S.few hp
  have hel:ElemsOf (intKind prog w) es.toList:=hm.elems S.rng
  have hb:es.size < scanBound:=by rw [hsz]; unfold scanBound; have:=S.few; omega
  unfold setAddHashed setAddHashedIn
  refine wpAny_holding (wpAny_bind (wpAny_setState_of ho rfl hf ?_))
  dsimp only
  rw [byScan_of (knd:=intKind prog w) rfl hb hel,if_pos rfl]
  unfold setAddByScan
  refine wpAny_bind (wpAny_bind (wpAny_rule (wpAny_bind (wpAny_setScan_of (knd:=intKind prog w) (k:=k) (by simp [intKind,Value.isInt]) ho rfl hf hel ?_))))
  have hfind:(List.findIdx? (fun e:Int×Value=>(intKind prog w).is k e.2) es.toList).isSome = decide (k∈ks):=hm.find
  cases hr:List.findIdx? (fun e:Int×Value=>(intKind prog w).is k e.2) es.toList with
  | some j =>
    rw [hr] at hfind
    have hk:k∈ks:=by simpa using hfind.symm
    dsimp only
    refine wpAny_pure (wpAny_pure ?_)
    exact h s.heap ks _ (Heap.SameBut.refl a s.heap) S (fun x=>⟨.inl,fun z=>z.elim id fun e=>e▸hk⟩) (Nat.le_succ _)
  | none =>
    rw [hr] at hfind
    have hk:k∉ks:=by simpa using hfind.symm
    dsimp only
    rw [hash_is h0 h1]
    have ek:k = ((k.toNat:Nat):Int):=by omega
    obtain ⟨pl',hp',p,e⟩:=lay_new h2 (led:=led) hp (h:=k.toNat) (by omega) hsz (Value.int k t)
    rw [← ek] at e
    rw [e]
    dsimp only
    have tl:(SetTable.insertAt es p (k,Value.int k t)).toList = es.toList.take p++(k,Value.int k t)::es.toList.drop p:=SetTable.toList_insertAt ..
    have hm':Mem (ks.take p++k::ks.drop p) (SetTable.insertAt es p (k,Value.int k t)).toList:=by
      rw [tl]
      exact (hm.take p).app (.cons ⟨t,rfl⟩ (hm.drop p))
    have perm:(ks.take p++k::ks.drop p).Perm (k::ks):=by
      have z:(ks.take p++k::ks.drop p).Perm (k::(ks.take p++ks.drop p)):=List.perm_middle
      rwa [List.take_append_drop] at z
    have len:(ks.take p++k::ks.drop p).length = ks.length+1:=by rw [perm.length_eq]; rfl
    have hsz':(SetTable.insertAt es p (k,Value.int k t)).size = ks.length+1:=by rw [← Array.length_toList,← PySem.Paired.length hm',len]
    refine wpAny_bind (wpAny_pure ?_)
    rw [if_pos (show (tab led pl').plain = true from rfl)]
    refine wpAny_bind ?_
    rw [hashByValue_scannable 8 (x:=Value.int k t) rfl]
    refine wpAny_pure ?_
    rw [if_pos (show plainKind (Value.int k t) = true from rfl)]
    refine wpAny_bind (wpAny_storeSet_of ho rfl ?_ (by rw [hsz']; have:=S.few; rw [sizeLine_eq]; omega))
    have lf:pl'.length≤3:=by rw [rises_len _ (by omega) pl' hp']; omega
    have nf:(tab led pl').tooFull = false:=by
      simp only [SetTable.tooFull,SetTable.fill,tab,List.size_toArray]
      simp
      omega
    rw [nf]
    simp only [Bool.not_false,Bool.and_false,Bool.false_eq_true,if_false]
    refine wpAny_pure (wpAny_pure ?_)
    refine h _ (ks.take p++k::ks.drop p) _ (Heap.SameBut.update ..) ⟨⟨_,ep+1,pl',?_,hm',?_⟩,?_,?_,?_⟩ ?_ (Nat.le_of_eq len)
    · have z:=Heap.get?_update_self (Obj.putSet (SetTable.insertAt es p (k,Value.int k t)) (tab led pl')) ho (by rw [putSet_of _ _ (show (setObj es ep (tab led pl)).data = .set es ep (tab led pl) from rfl)]; rfl)
      rw [putSet_of _ _ (show (setObj es ep (tab led pl)).data = .set es ep (tab led pl) from rfl)] at z
      exact z
    · rw [len]; exact hp'
    · rw [len]; omega
    · rw [perm.nodup_iff]
      exact List.nodup_cons.mpr ⟨hk,S.nd⟩
    · intro x hx
      rcases List.mem_cons.mp (perm.mem_iff.mp hx) with rfl | z
      · exact ⟨h0,h1⟩
      · exact S.rng x z
    · intro x
      rw [perm.mem_iff,List.mem_cons]
      exact ⟨fun z=>z.elim .inr .inl,fun z=>z.elim .inr .inl⟩
end
end Ev

namespace Ev
open PySem
theorem si_next:Slot "set_iterator" "__next__" "set_iterator.__next__" :=
  .of (owner:="set_iterator") (n:="__next__")
    (by rw [typeLookup_type,builtinLookup_eq_fast]; kernel_rfl) (by decide +kernel) (by decide +kernel)
    (by decide +kernel) (by first | exact .inl (by decide +kernel) | exact .inr (by decide +kernel))
    (by rw [isSubtype_type]; kernel_rfl)
theorem si_iter:Slot "set_iterator" "__iter__" "set_iterator.__iter__" :=
  .of (owner:="set_iterator") (n:="__iter__")
    (by rw [typeLookup_type,builtinLookup_eq_fast]; kernel_rfl) (by decide +kernel) (by decide +kernel)
    (by decide +kernel) (by first | exact .inl (by decide +kernel) | exact .inr (by decide +kernel))
    (by rw [isSubtype_type]; kernel_rfl)
theorem si_entry_next:entryFor table "set_iterator.__next__" = some Builtin.«set_iterator.__next__»:=entryFor_of_tree (by kernel_rfl)
theorem si_entry_iter:entryFor table "set_iterator.__iter__" = some Builtin.«dict_keyiterator.__iter__» :=
  entryFor_alias (id':="dict_keyiterator.__iter__") (by kernel_rfl) rfl (by decide +kernel) (by kernel_rfl)
theorem si_owner:Manifest.owners.lookup (String.ofList ['r','o','t','a','r','e','t','i','_','t','e','s'].reverse) = some Manifest.sig_set_iterator:=by kernel_rfl
theorem si_args_next (a:Value):argsOk "set_iterator.__next__" ⟨[a],[]⟩:=by
  unfold argsOk
  rw [signature?_of (id:="set_iterator.__next__") (n:=['_','_','t','x','e','n','_','_']) (o:=['r','o','t','a','r','e','t','i','_','t','e','s']) (by kernel_rfl) si_owner]
  kernel_rfl
theorem si_args_iter (a:Value):argsOk "set_iterator.__iter__" ⟨[a],[]⟩:=by
  unfold argsOk
  rw [signature?_of (id:="set_iterator.__iter__") (n:=['_','_','r','e','t','i','_','_']) (o:=['r','o','t','a','r','e','t','i','_','t','e','s']) (by kernel_rfl) si_owner]
  kernel_rfl
theorem set_entry_iter:entryFor table "set.__iter__" = some Builtin.«frozenset.__iter__» :=
  entryFor_alias (id':="frozenset.__iter__") (by kernel_rfl) rfl (by decide +kernel) (by kernel_rfl)
def byText (w:World):Bool:=w.params.followText "set-order"
def ordOf (w:World) (a:Addr) (ep:Nat) (es:Array (Int×Value)):Array (Int×Value):=if byText w then pickOrder (w.params.setOrder a ep) es else es
theorem go_perm {α:Type} (next:Nat→Nat):∀ (n k:Nat) (l:List α) (out:Array α),l.length = n→(pickOrder.go next n k l out).toList.Perm (out.toList++l)
  | 0,k,l,out,h=>by
    have e:l = []:=List.length_eq_zero_iff.mp h
    subst e
    simp [pickOrder.go]
  | n+1,k,l,out,h=>by
    have hlt:next k % l.length < l.length:=Nat.mod_lt _ (by omega)
    unfold pickOrder.go
    rw [List.getElem?_eq_getElem hlt]
    dsimp only
    have ih:=go_perm next n (k+1) (l.eraseIdx (next k % l.length)) (out.push l[next k % l.length]) (by rw [List.length_eraseIdx_of_lt hlt,h]; rfl)
    refine ih.trans ?_
    rw [Array.toList_push,List.append_assoc]
    refine List.Perm.append_left _ ?_
    rw [List.eraseIdx_eq_take_drop_succ,List.singleton_append]
    refine (List.perm_middle.symm).trans (List.Perm.of_eq ?_)
    rw [← List.drop_eq_getElem_cons hlt,List.take_append_drop]
theorem pick_perm {α:Type} (next:Nat→Nat) (xs:Array α):(pickOrder next xs).toList.Perm xs.toList:=by
  have h:=go_perm next xs.size 0 xs.toList #[] (by simp)
  simpa [pickOrder] using h
theorem ord_perm (w:World) (a:Addr) (ep:Nat) (es:Array (Int×Value)):(ordOf w a ep es).toList.Perm es.toList:=by
  unfold ordOf
  split
  · exact pick_perm _ _
  · exact .rfl
theorem ord_size (w:World) (a:Addr) (ep:Nat) (es:Array (Int×Value)):(ordOf w a ep es).size = es.size:=by
  have:=(ord_perm w a ep es).length_eq
  simpa using this
def slotOf (pl:List Nat):Nat→Nat
  | 0=>0
  | i+1=>pl.getD i 0+1
theorem below_ok:∀ n∈List.range 4,∀ pl∈rises n,∀ i∈List.range (n+1),SetTable.below pl.toArray (slotOf pl i) = i:=by decide +kernel
structure SetAt (w:World) (h:Heap) (a:Addr) (es:Array (Int×Value)) (ep:Nat) (pl:List Nat):Prop where
  ob:h.get? a = some (setObj es ep (tab (!byText w) pl))
  few:es.size≤3
  ris:pl∈rises es.size
def SetIter (w:World) (h:Heap) (I a:Addr) (n ep:Nat) (pl:List Nat) (i:Nat):Prop :=
  ∃ slot:Nat,h.get? I = some { cls:=.type "set_iterator",data:=.fields #[rawInt slot,rawInt i,.ref a,rawInt n,rawInt ep] }∧(byText w = false→slot = slotOf pl i)
theorem SetIter.type {w:World} {s:Shared} {I a:Addr} {n ep:Nat} {pl:List Nat} {i:Nat} (x:SetIter w s.heap I a n ep pl i):s.TypeIs (.ref I) "set_iterator":=let ⟨_,h,_⟩:=x; ⟨_,h,rfl⟩
section
variable {prog:Program} {w:World} {A:Around} {E:Value→Shared→Prop} {s:Shared} {a I:Addr} {es:Array (Int×Value)} {ep:Nat} {pl:List Nat}
theorem SetAt.fits (S:SetAt w s.heap a es ep pl):(tab (!byText w) pl).fits es.size = true:=tab_fits S.few S.ris
theorem SetAt.type (S:SetAt w s.heap a es ep pl):s.TypeIs (.ref a) "set":=⟨_,S.ob,rfl⟩
theorem byText_wp {Q:Bool→Shared→Prop} (h:Q (byText w) s):wpAny (model prog w) A setsByText Q E s:=by
  unfold setsByText
  exact wpAny_bind (wpAny_askSetting (wpAny_pure h))
theorem iter_set {Q:Value→Shared→Prop} (S:SetAt w s.heap a es ep pl)
    (h:Q (.ref s.heap.objs.size) { s with heap:=s.heap.push { cls:=.type "set_iterator",data:=.fields #[rawInt 0,rawInt 0,.ref a,rawInt es.size,rawInt ep] } }) :
    wpAny (model prog w) A (pyIter (.ref a)) Q E s:=by
  refine wpAny_pyIter_slot S.type F.slot_set_iter (wpAny_call_entry F.slot_set_iter S.type set_entry_iter ?_ (F.args_set_iter_1 _))
  unfold Builtin.«frozenset.__iter__»
  refine wpAny_bind (wpAny_pure ?_)
  refine wpAny_bind ?_
  unfold Builtin.Frozenset.sizeOf
  refine wpAny_bind (wpAny_setEntries_of S.ob rfl S.fits (wpAny_pure ?_))
  refine wpAny_bind ?_
  unfold setDrawn
  refine wpAny_bind (wpAny_setState_of S.ob rfl S.fits ?_)
  refine wpAny_bind (byText_wp (wpAny_pure ?_))
  dsimp only
  split
  · rename_i hc
    exfalso
    revert hc
    cases byText w
    · intro hc
      exact absurd (show false = true from hc) Bool.false_ne_true
    · intro hc
      exact absurd (show false = true from hc) Bool.false_ne_true
  refine wpAny_bind (wpAny_pure ?_)
  refine wpAny_bind (wpAny_setEpoch_of S.ob rfl S.fits ?_)
  unfold newFields
  refine wpAny_bind (wpAny_newObj_type (wpAny_pure ⟨_,rfl,"set_iterator",_,⟨_,Heap.get?_push_size _ rfl,rfl⟩,si_next.lookup,?_⟩))
  exact h
end
end Ev

namespace Ev
open PySem
theorem SetAt.at {w:World} {h h':Heap} {a:Addr} {es:Array (Int×Value)} {ep:Nat} {pl:List Nat} (S:SetAt w h a es ep pl) (e:∀ o,h.get? a = some o→h'.get? a = some o):SetAt w h' a es ep pl:=⟨e _ S.ob,S.few,S.ris⟩
theorem SetIter.at {w:World} {h h':Heap} {I a:Addr} {n ep:Nat} {pl:List Nat} {i:Nat} (x:SetIter w h I a n ep pl i) (e:∀ o,h.get? I = some o→h'.get? I = some o):SetIter w h' I a n ep pl i:=let ⟨sl,q,r⟩:=x; ⟨sl,e _ q,r⟩
section
variable {prog:Program} {w:World} {A:Around} {E:Value→Shared→Prop} {s:Shared} {a I:Addr} {es:Array (Int×Value)} {ep:Nat} {pl:List Nat} {i:Nat}
theorem below_at (S:SetAt w s.heap a es ep pl) (hi:i≤es.size):SetTable.below pl.toArray (slotOf pl i) = i :=
  below_ok es.size (List.mem_range.mpr (by have:=S.few; omega)) pl S.ris i (List.mem_range.mpr (by omega))
theorem setNext_item {slot:Nat} {v:Value} {Q:Option (Value×Nat)→Shared→Prop} (S:SetAt w s.heap a es ep pl) (hs:byText w = false→slot = slotOf pl i) (hv:(ordOf w a ep es)[i]?.map (·.2) = some v)
    (h:∀ nx:Nat,(byText w = false→nx = slotOf pl (i+1))→Q (some (v,nx)) s):wpAny (model prog w) A (setNext a slot i ep) Q E s:=by
  unfold setNext
  refine wpAny_bind (wpAny_setState_of S.ob rfl S.fits ?_)
  refine wpAny_bind (byText_wp ?_)
  have hlt:i < es.size:=by
    have z:i < (ordOf w a ep es).size:=by
      cases q:(ordOf w a ep es)[i]? with
      | none=>rw [q] at hv; cases hv
      | some x=>exact (Array.getElem?_eq_some_iff.mp q).1
    rwa [ord_size] at z
  cases hb:byText w with
  | true =>
    rw [if_pos rfl,if_neg (by simp)]
    refine wpAny_bind ?_
    unfold setWalk
    refine wpAny_bind (wpAny_setState_of S.ob rfl S.fits ?_)
    refine wpAny_bind (byText_wp ?_)
    rw [hb,if_pos rfl]
    refine wpAny_bind (wpAny_askSetting (wpAny_pure ?_))
    refine wpAny_pure ?_
    have e:(pickOrder (w.params.setOrder a ep) es)[i]?.map (·.2) = some v:=by
      unfold ordOf at hv
      rw [hb,if_pos rfl] at hv
      exact hv
    cases q:(pickOrder (w.params.setOrder a ep) es)[i]? with
    | none=>rw [q] at e; cases e
    | some x =>
      rw [q] at e
      obtain rfl:x.2 = v:=Option.some.inj e
      show Q (((pickOrder (w.params.setOrder a ep) es)[i]?).map fun e=>(e.2,slot)) s
      rw [q]
      exact h slot (fun z=>by rw [hb] at z; cases z)
  | false =>
    have e1:slot = slotOf pl i:=hs hb
    subst e1
    rw [if_neg Bool.false_ne_true]
    dsimp only
    split
    · rename_i hc
      exact absurd (show false = true from hc) Bool.false_ne_true
    refine wpAny_bind (wpAny_pure ?_)
    refine wpAny_pure ?_
    have hpl:pl.length = es.size:=rises_len _ S.few pl S.ris
    have ep1:(tab (!false) pl).place[SetTable.below (tab (!false) pl).place (slotOf pl i)]? = some (pl.getD i 0):=by
      show pl.toArray[SetTable.below pl.toArray (slotOf pl i)]? = some (pl.getD i 0)
      rw [below_at S (Nat.le_of_lt hlt)]
      simp [List.getD,List.getElem?_eq_getElem (show i < pl.length by omega)]
    have ee1:es[SetTable.below (tab (!false) pl).place (slotOf pl i)]? = some es[i]:=by
      show es[SetTable.below pl.toArray (slotOf pl i)]? = some es[i]
      rw [below_at S (Nat.le_of_lt hlt)]
      simp [hlt]
    have ev:es[i].2 = v:=by
      unfold ordOf at hv
      rw [hb,if_neg Bool.false_ne_true] at hv
      simpa [hlt] using hv
    rw [ee1,ep1]
    show Q (some (es[i].2,pl.getD i 0+1)) s
    rw [ev]
    exact h _ fun _=>rfl
theorem setNext_end {slot:Nat} {Q:Option (Value×Nat)→Shared→Prop} (S:SetAt w s.heap a es ep pl) (hs:byText w = false→slot = slotOf pl es.size)
    (h:Q none s):wpAny (model prog w) A (setNext a slot es.size ep) Q E s:=by
  unfold setNext
  refine wpAny_bind (wpAny_setState_of S.ob rfl S.fits ?_)
  refine wpAny_bind (byText_wp ?_)
  cases hb:byText w with
  | true =>
    rw [if_pos rfl,if_neg (by simp)]
    refine wpAny_bind ?_
    unfold setWalk
    refine wpAny_bind (wpAny_setState_of S.ob rfl S.fits ?_)
    refine wpAny_bind (byText_wp ?_)
    rw [hb,if_pos rfl]
    refine wpAny_bind (wpAny_askSetting (wpAny_pure ?_))
    refine wpAny_pure ?_
    have e:(pickOrder (w.params.setOrder a ep) es).size = es.size:=by
      have:=(pick_perm (w.params.setOrder a ep) es).length_eq
      simpa using this
    have q:(pickOrder (w.params.setOrder a ep) es)[es.size]? = none:=by
      rw [Array.getElem?_eq_none]
      omega
    show Q (((pickOrder (w.params.setOrder a ep) es)[es.size]?).map fun e=>(e.2,slot)) s
    rw [q]
    exact h
  | false =>
    have e1:slot = slotOf pl es.size:=hs hb
    subst e1
    rw [if_neg Bool.false_ne_true]
    dsimp only
    split
    · rename_i hc
      exact absurd (show false = true from hc) Bool.false_ne_true
    refine wpAny_bind (wpAny_pure ?_)
    refine wpAny_pure ?_
    have ee1:es[SetTable.below (tab (!false) pl).place (slotOf pl es.size)]? = none:=by
      show es[SetTable.below pl.toArray (slotOf pl es.size)]? = none
      rw [below_at S (Nat.le_refl _)]
      simp
    rw [ee1]
    exact h
end
end Ev

namespace Ev
open PySem
section
variable {prog:Program} {w:World} {A:Around} {E:Value→Shared→Prop} {s:Shared} {a I:Addr} {es:Array (Int×Value)} {ep:Nat} {pl:List Nat} {i:Nat}
theorem next_item {v:Value} {Q:Option Value→Shared→Prop} (S:SetAt w s.heap a es ep pl) (hit:SetIter w s.heap I a es.size ep pl i) (hv:(ordOf w a ep es)[i]?.map (·.2) = some v)
    (hQ:∀ h',SetIter w h' I a es.size ep pl (i+1)→Heap.SameBut I s.heap h'→Q (some v) { s with heap:=h' }) :
    wpAny (model prog w) A (pyNext (.ref I)) Q E s:=by
  obtain ⟨slot,ho,hs⟩:=id hit
  unfold pyNext
  refine wpAny_bind (wpAny_attempt (wpAny_callSpecial?_slot (name:=Str.ofString "__next__") hit.type si_next
    (wpAny_call_entry si_next hit.type si_entry_next ?_ (si_args_next _))))
  unfold Builtin.«set_iterator.__next__»
  refine wpAny_bind (wpAny_pure ?_)
  refine wpAny_bind (wpAny_fieldsOf ho rfl ?_)
  dsimp only
  show wpAny _ _ (setEntries a >>= _) _ _ s
  refine wpAny_bind (wpAny_setEntries_of S.ob rfl S.fits ?_)
  rw [if_neg (by simp)]
  show wpAny _ _ (setNext a ((slot:Int)).toNat ((i:Int)).toNat ((ep:Int)).toNat >>= _) _ _ s
  refine wpAny_bind (setNext_item (i:=i) S hs hv fun nx hnx=>?_)
  dsimp only
  refine wpAny_bind (wpAny_setField ho rfl (by simp) ?_)
  have ho1:=Heap.get?_update_self (Obj.mapFields (·.setIfInBounds 0 (rawInt (nx:Int)))) ho rfl
  refine wpAny_bind (wpAny_setField (s:={ s with heap:=s.heap.update I (Obj.mapFields (·.setIfInBounds 0 (rawInt (nx:Int)))) }) ho1 rfl (by simp [Obj.mapFields]) ?_)
  have ho2:=Heap.get?_update_self (Obj.mapFields (·.setIfInBounds 1 (rawInt ((i:Int)+1)))) ho1 rfl
  refine wpAny_pure ⟨_,rfl,wpAny_pure ?_⟩
  refine hQ _ ⟨nx,?_,hnx⟩ ((Heap.SameBut.update ..).trans (Heap.SameBut.update ..))
  exact ho2
theorem next_end {Q:Option Value→Shared→Prop} (hh:A.handled = none) (S:SetAt w s.heap a es ep pl) (hit:SetIter w s.heap I a es.size ep pl es.size)
    (hQ:∀ h',Heap.ExtBut I s.heap h'→Q none { s with heap:=h' }):wpAny (model prog w) A (pyNext (.ref I)) Q E s:=by
  obtain ⟨slot,ho,hs⟩:=id hit
  unfold pyNext
  refine wpAny_bind (wpAny_attempt (wpAny_callSpecial?_slot (name:=Str.ofString "__next__") hit.type si_next
    (wpAny_call_entry si_next hit.type si_entry_next ?_ (si_args_next _))))
  unfold Builtin.«set_iterator.__next__»
  refine wpAny_bind (wpAny_pure ?_)
  refine wpAny_bind (wpAny_fieldsOf ho rfl ?_)
  dsimp only
  show wpAny _ _ (setEntries a >>= _) _ _ s
  refine wpAny_bind (wpAny_setEntries_of S.ob rfl S.fits ?_)
  rw [if_neg (by simp)]
  show wpAny _ _ (setNext a ((slot:Int)).toNat ((es.size:Int)).toNat ((ep:Int)).toNat >>= _) _ _ s
  refine wpAny_bind (setNext_end S hs ?_)
  dsimp only
  refine wpAny_bind (wpAny_setField ho rfl (by simp) ?_)
  show wpAny _ _ (newExc (.type "StopIteration") [] >>= _) _ _ _
  refine wpAny_bind ?_
  simp only [newExc,newTuple]
  refine wpAny_bind (wpAny_newObj_type ?_ (by size_fits))
  refine wpAny_bind (m:=firstArgMember _ _) (wpAny_of_eq (a:=Value.none) (by first | rfl | (simp only [firstArgMember]; rfl)) ?_)
  refine wpAny_newObj_type ?_ (by size_fits)
  refine wpAny_raiseNew_none hh ?_
  refine wpAny_bind (wpAny_isInstance (T:="StopIteration") (b:=true) ⟨_,Heap.get?_push_size _ rfl,rfl⟩ isSubtype_stop ?_)
  exact wpAny_pure (hQ _ (((Heap.SameBut.update ..).extBut.push _).push _))
theorem iter_self {Q:Value→Shared→Prop} (hit:SetIter w s.heap I a es.size ep pl i) (h:Q (.ref I) s):wpAny (model prog w) A (pyIter (.ref I)) Q E s:=by
  refine wpAny_pyIter_slot hit.type si_iter (wpAny_call_entry si_iter hit.type si_entry_iter ?_ (si_args_iter _))
  show wpAny _ _ (ret (.ref I)) _ _ s
  exact wpAny_pure ⟨_,rfl,"set_iterator",_,hit.type,si_next.lookup,h⟩
end
theorem walks_set {prog:Program} {w:World} {A:Around} (hh:A.handled = none) (I a:Addr) (hne:a≠I) (es:Array (Int×Value)) (ep:Nat) (pl:List Nat) :
    Walks prog w A I [I,a] [I] es.size (fun i v=>(ordOf w a ep es)[i]?.map (·.2) = some v) (fun i h=>SetIter w h I a es.size ep pl i∧SetAt w h a es ep pl) where
  sub:=fun b hb=>by
    have e:b = I:=by simpa using hb
    simp [e]
  frame:=fun _ _ _ st hk=>⟨st.1.at fun o e=>hk I (by simp) o e,st.2.at fun o e=>hk a (by simp) o e⟩
  item:=fun i s Q E hi st hQ=>by
    have hlt:i < (ordOf w a ep es).size:=by rw [ord_size]; exact hi
    have hv:(ordOf w a ep es)[i]?.map (·.2) = some (ordOf w a ep es)[i].2:=by simp [hlt]
    refine next_item st.2 st.1 hv fun h' hit' hs'=>?_
    exact hQ _ h' s.toks hv ⟨hit',st.2.at fun o e=>hs'.extBut a o hne e⟩ fun b o hb e=>hs'.extBut b o (fun z=>hb (by simp [z])) e
  done:=fun s Q E st hQ=>next_end hh st.2 st.1 fun h' he'=>hQ h' s.toks fun b o hb e=>he' b o (fun z=>hb (by simp [z])) e
  self:=fun _ _ _ _ st hQ=>iter_self st.1 hQ
end Ev

namespace Ev
open PySem PyProof.Rows
section
variable {prog:Program} {w:World} {A:Around} {R:Result→Shared→Prop}
theorem fill_loop {I a l:Addr} {items:Array Value} {ns:List Int} {led:Bool} (hh:A.in1.handled = none) (hlI:l≠I) (haI:a≠I) (hal:a≠l) (hi:IntsAre items.toList ns) (hr:∀ k∈ns,0≤k∧k < 80) (h3:ns.length≤3) :
    ∀ (k i:Nat) (s:Shared) (ks:List Int),items.size - i = k→i≤items.size→s.heap.IsListIter I l i→s.heap.IsList l items→SetG s.heap a led ks→(∀ x,x∈ks↔x∈ns.take i)→ks.length≤i →
      (∀ h' tk ks',SetG h' a led ks'→(∀ x,x∈ks'↔x∈ns)→(∀ b o,b≠a→b≠I→s.heap.get? b = some o→h'.get? b = some o)→R (.ok (.ret .none)) { s with heap:=h',toks:=tk }) →
      codeAny (model prog w) A (.builtin "set.update.loop" ⟨[.ref a,.ref I],[]⟩) R s:=by
  have hlen:items.size = ns.length:=by rw [← Array.length_toList]; exact IntsAre.length hi
  intro k
  induction k with
  | zero =>
    intro i s ks hk hi' hit hl S hm hle hR
    have e:i = items.size:=by omega
    subst e
    refine codeAny_builtin PyProof.Rows.F.entry_set_update_loop ?_
    rw [Around.under_plainId PyProof.Rows.F.plain_set_update_loop _]
    show wpAny _ A.in1 (pyNext (.ref I) >>= _) _ _ s
    refine wpAny_bind (wpAny_pyNext_list_end hh hit hl (by simp) fun h' he'=>?_)
    show wpAny _ A.in1 (ret Value.none) _ _ _
    refine wpAny_pure (hR h' s.toks ks ?_ (fun x=>by rw [hm x,hlen,List.take_length]) fun b o hb hbI e=>he' b o hbI e)
    obtain ⟨⟨es,ep,pl,ho,r⟩,r2,r3,r4⟩:=S
    exact ⟨⟨es,ep,pl,he' a _ haI ho,r⟩,r2,r3,r4⟩
  | succ k ih =>
    intro i s ks hk hi' hit hl S hm hle hR
    have hlt:i < items.size:=by omega
    refine codeAny_builtin PyProof.Rows.F.entry_set_update_loop ?_
    rw [Around.under_plainId PyProof.Rows.F.plain_set_update_loop _]
    show wpAny _ A.in1 (pyNext (.ref I) >>= _) _ _ s
    refine wpAny_bind (wpAny_pyNext_list_item hit hl (x:=items[i]) (by simp [hlt]) fun h' hit' hs'=>?_)
    have hn:i < ns.length:=by omega
    obtain ⟨t,et⟩:=IntsAre.int_at hi i items[i] (by rw [Array.getElem?_toList]; simp [hlt])
    have eg:ns.getD i 0 = ns[i]:=by simp [List.getD,List.getElem?_eq_getElem hn]
    rw [eg] at et
    rw [et]
    show wpAny _ A.in1 (holding [Value.int ns[i] t] (setAdd a (.int ns[i] t)) >>= _) _ _ _
    refine wpAny_bind (wpAny_holding ?_)
    unfold setAdd
    refine wpAny_holding (wpAny_bind ((intKind prog w).pyHash (k:=ns[i]) (intKind_is _ _ _ _) ?_))
    have S':SetG h' a led ks:=by
      obtain ⟨⟨es,ep,pl,ho,r⟩,r2,r3,r4⟩:=S
      exact ⟨⟨es,ep,pl,hs'.extBut a _ haI ho,r⟩,r2,r3,r4⟩
    have hk2:=hr ns[i] (List.getElem_mem hn)
    refine add_one (s:={ s with heap:=h',toks:=s.toks+1 }) S' hk2.1 hk2.2 (by omega) fun h2 ks' b sb S2 hm2 hl2=>?_
    refine wpAny_pure ⟨plainId_quiet PyProof.Rows.F.plain_set_update_loop _,ih (i+1) { s with heap:=h2,toks:=s.toks+1 } ks' (by omega) (by omega) (hit'.at fun o e=>(sb.2 I (Ne.symm haI)).trans e) ?_ S2 (fun x=>?_) (by omega) fun h3 tk ks3 S3 hm3 kp3=>?_⟩
    · have z:h'.IsList l items:=hl.at fun o e=>hs'.extBut l o hlI e
      exact z.at fun o e=>(sb.2 l (Ne.symm hal)).trans e
    · rw [hm2 x,hm x,List.take_succ_eq_append_getElem hn,List.mem_append,List.mem_singleton]
    · exact hR h3 tk ks3 S3 hm3 fun b o hb hbI e=>kp3 b o hb hbI ((sb.2 b hb).trans (hs'.extBut b o hbI e))
end
section
variable {prog:Program} {w:World} {A:Around} {E:Value→Shared→Prop} {s:Shared}
theorem new_set (x:Value) {Q₁:Value→Shared→Prop}
    (h:Q₁ (.ref s.heap.objs.size) { s with heap:=s.heap.push (setObj #[] 0 (tab (!byText w) [])) }) :
    codeAny (model prog w) A (.call (.builtin "set.__new__") ⟨[.type "set",x],[]⟩) (wants Q₁ E) s:=by
  refine codeAny_of_tree ?_
  show wpAny _ A.in1 (do checkBuiltinCall "set.__new__" ⟨[.type "set",x],[]⟩; again (.builtin "set.__new__" ⟨[.type "set",x],[]⟩)) _ _ s
  refine wpAny_bind (wpAny_of_eq (PySem.F.newCall_set_1 x) (wpAny_pure ⟨plainId_quiet PySem.F.plain_set_new _,codeAny_builtin PySem.F.entry_set_new ?_⟩))
  rw [Around.under_plainId PySem.F.plain_set_new _]
  unfold Builtin.«set.__new__» Builtin.Frozenset.newClass
  have hsub:=sub_set_self
  obtain ⟨hp,g,d,tk,os⟩:=s
  dsimp only
  wp_walk
  refine wpAny_askSetting (wpAny_pure ?_)
  dsimp only
  simp only [newObj]
  refine wpAny_bind (wpAny_alloc (wpAny_pure (wpAny_pure ?_)))
  exact h
end
end Ev

namespace Ev
open PySem PyProof.Rows
section
variable {prog:Program} {w:World} {A:Around} {E:Value→Shared→Prop} {s:Shared}
set_option maxHeartbeats 3200000 in
theorem set_of_list {l:Addr} {items:Array Value} {ns:List Int} {Q:Value→Shared→Prop} (hh:A.handled = none) (hl:s.heap.IsList l items) (hi:IntsAre items.toList ns) (hr:∀ k∈ns,0≤k∧k < 80) (h3:ns.length≤3)
    (h:∀ h' tk ks,SetG h' s.heap.objs.size (!byText w) ks→(∀ x,x∈ks↔x∈ns)→(∀ b o,s.heap.get? b = some o→h'.get? b = some o)→Q (.ref s.heap.objs.size) { s with heap:=h',toks:=tk }) :
    wpAny (model prog w) A (call (.type "set") [.ref l]) Q E s:=by
  obtain ⟨c,tl,hmro⟩:=PySem.F.called_set.mro
  have hmade:=PySem.F.called_set.made
  have hsub:=PySem.F.called_set.sub
  refine wpAny_call (codeAny_of_tree ?_)
  show wpAny _ _ (callAny (.type "set") _) _ _ _
  refine wpAny_pure ⟨Code.quiet_builtin _ (by decide +kernel),codeAny_builtin PySem.F.entry_type_call ?_⟩
  rw [Around.under_plain (weight_type_call_type "set" [.ref l] []) rfl]
  have h1:=PySem.F.called_set.notType
  have h2:=PySem.F.called_set.canCreate
  have hct:=PySem.F.typeCall_set_1 (.ref l)
  repeat (any_goals (first | assumption | wp_step))
  refine codeAny_mono (new_set (.ref l) (E:=E)
    (Q₁:=fun obj s₁=>obj = .ref s.heap.objs.size∧s₁ = { s with heap:=s.heap.push (setObj #[] 0 (tab (!byText w) [])) }) ⟨rfl,rfl⟩) fun r s₁ hr₁=>?_
  cases r with
  | error e=>exact hr₁
  | ok fl =>
    cases fl with
    | ret obj =>
      obtain ⟨rfl,rfl⟩:=hr₁
      have hS:(s.heap.push (setObj #[] 0 (tab (!byText w) []))).get? s.heap.objs.size = some (setObj #[] 0 (tab (!byText w) [])):=Heap.get?_push_size _ rfl
      have hT:Shared.TypeIs { s with heap:=s.heap.push (setObj #[] 0 (tab (!byText w) [])) } (.ref s.heap.objs.size) "set":=⟨_,hS,rfl⟩
      have hli:=PySem.F.called_set.init.lookup
      have hbi:=PySem.F.called_set.init.bind (.ref s.heap.objs.size)
      repeat (any_goals (first | assumption | wp_step))
      refine codeAny_mono (codeAny_call_builtin
        (R:=wants (fun r s₂=>r = .none∧∃ h' tk ks,s₂ = { s with heap:=h',toks:=tk }∧SetG h' s.heap.objs.size (!byText w) ks∧(∀ x,x∈ks↔x∈ns) ∧
          (∀ b o,s.heap.get? b = some o→h'.get? b = some o)) E) PySem.F.called_set.init.plain PySem.F.entry_set_init (check_set_init_1 hT ?_)) fun r₂ s₂ hr₂=>?_
      · obtain ⟨ol,hol,hcl,nl,hdl⟩:=hl
        obtain ⟨ocls,odict,odata,oslots⟩:=ol
        simp only at hcl hdl
        subst hcl; subst hdl
        have hol':(s.heap.push (setObj #[] 0 (tab (!byText w) []))).get? l = some { cls:=.type "list",dict:=odict,data:=.seq items nl,slots:=oslots }:=Heap.get?_push_of_some _ hol
        have hsls:=PySem.F.sub_list_set
        have hslf:=PySem.F.sub_list_frozenset
        have hne:(Value.type "list" == Value.type "dict") = false:=by decide
        have hl1:(s.heap.push (setObj #[] 0 (tab (!byText w) []))).IsList l items:=⟨_,hol',rfl,nl,rfl⟩
        unfold Builtin.«set.__init__» noKeywords Builtin.Frozenset.updateFrom
        generalize hPI:pyIter = PI
        have hSo:=hS
        unfold setObj tab at hSo
        wp_walk
        subst hPI
        refine wpAny_pyIter_list hl1 ?_
        refine wpAny_bind (wpAny_runValue ?_)
        have hlS:l < s.heap.objs.size:=Heap.lt_size hol
        have hh3:A.in1.in1.in1.handled = none:=by simp [hh]
        have up:∀ b o,(s.heap.push (setObj #[] 0 (tab (!byText w) []))).get? b = some o →
          ((s.heap.push (setObj #[] 0 (tab (!byText w) []))).push { cls:=.type "list_iterator",data:=.fields #[.ref l,.int 0 0] }).get? b = some o:=fun b o e=>Heap.get?_push_of_some _ e
        refine fill_loop (led:=!byText w) (I:=(s.heap.push (setObj #[] 0 (tab (!byText w) []))).objs.size) (l:=l) (items:=items) (ns:=ns) hh3 ?_ ?_ ?_ hi hr h3 items.size 0 _ [] rfl (Nat.zero_le _)
          ⟨_,Heap.get?_push_size _ rfl,rfl,rfl⟩ (hl1.push _) ⟨⟨#[],0,[],up _ _ hS,.nil,by decide⟩,by decide,List.nodup_nil,fun k hk=>by cases hk⟩ (fun x=>by simp) (Nat.le_refl _) fun h' tk ks S hm kp=>?_
        · rw [Heap.size_push]; exact Nat.ne_of_lt (Nat.lt_succ_of_lt hlS)
        · rw [Heap.size_push]; exact Nat.ne_of_lt (Nat.lt_succ_self _)
        · exact Nat.ne_of_gt hlS
        · show wpAny _ _ _ _ _ _
          refine wpAny_pure ?_
          show wpAny _ _ (ret Value.none) _ _ _
          refine wpAny_pure ⟨rfl,h',tk,ks,rfl,S,hm,fun b o e=>?_⟩
          have hb:=Heap.lt_size e
          refine kp b o (Nat.ne_of_lt hb) ?_ (up _ _ (Heap.get?_push_of_some _ e))
          rw [Heap.size_push]
          exact Nat.ne_of_lt (Nat.lt_succ_of_lt hb)
      · cases r₂ with
        | error e=>exact hr₂
        | ok fl₂ =>
          cases fl₂ with
          | ret r =>
            obtain ⟨rfl,h',tk,ks,rfl,S,hm,kp⟩:=hr₂
            repeat (any_goals (first | assumption | wp_step))
            exact h _ _ _ S hm kp
          | _=>exact hr₂.elim
    | _=>exact hr₁.elim
end
end Ev

namespace L2
open PySem PySem.Spec PyProof.Rows
def SetO (w:World) (a:Addr) (ks:List Int):HO:=.ext fun h=>Ev.SetG h a (!Ev.byText w) ks
theorem setG_at {h h':Heap} {a:Addr} {led:Bool} {ks:List Int} (S:Ev.SetG h a led ks) (k:∀ o,h.get? a = some o→h'.get? a = some o):Ev.SetG h' a led ks:=by
  obtain ⟨⟨es,ep,pl,e,r⟩,r2,r3,r4⟩:=S
  exact ⟨⟨es,ep,pl,k _ e,r⟩,r2,r3,r4⟩
theorem ints_vals:∀ {ns:List Int} {us:List Value},Vals (ns.map V.int) us→IntsAre us ns
  | [],_,.nil=>.nil
  | n::r,_,.cons ⟨t,e⟩ q=>by
    subst e
    exact .cons n t (ints_vals q)
theorem vals_of_ints:∀ {us:List Value} {ns:List Int},IntsAre us ns→Vals (ns.map V.int) us
  | _,_,.nil=>.nil
  | _,_,.cons n t q=>.cons ⟨t,rfl⟩ (vals_of_ints q)
section
variable {X:Cx}
theorem call_setL (hc:X.calm = true):CallR X (.type "set") (fun xs H Q=>∃ (l:Addr) (ns:List Int),xs = [.ref l]∧SqL X.K H l (ns.map V.int)∧ns.length≤3∧(∀ k∈ns,0≤k∧k < 80) ∧
    ∀ (p:Addr) (ks:List Int),H p = none→(∀ x,x∈ks↔x∈ns)→Q (.ref p) (upd H p (SetO X.w p ks))):=by
  intro pins s σ H xs us Q I r h
  obtain ⟨l,ns,rfl,hq,h3,hr,q⟩:=h
  obtain ⟨u,rfl,ru⟩:=vals1 r
  cases ru
  obtain ⟨its,rv,p,hz⟩:=I.list hq
  refine Ev.set_of_list (items:=its.toArray) (ns:=ns) (I.ok.hd hc) p.isList (by simpa using ints_vals rv) hr h3 fun h' tk ks S hm kp=>?_
  have hf:=I.hok.fresh (Nat.le_refl s.heap.objs.size)
  refine ⟨.ref s.heap.objs.size,upd H s.heap.objs.size (SetO X.w s.heap.objs.size ks),I.laid kp (Nat.le_refl _) ?_,rfl,q _ ks hf hm⟩
  obtain ⟨es,ep,pl,e,_⟩:=S.at_
  exact ⟨S,⟨_,e⟩,fun h1 h2 S1 k=>setG_at S1 k⟩
end
theorem SetO.inj {w:World} {a b:Addr} {ks js:List Int} (e:SetO w a ks = SetO w b js):(fun h=>Ev.SetG h a (!Ev.byText w) ks) = fun h=>Ev.SetG h b (!Ev.byText w) js:=by
  injection e
end L2
namespace Ev
open PySem PySem.W PyProof.Rows PySem.Calls
section
variable {prog:Program} {w:World} {A:Around} {E:Value→Shared→Prop} {s:Shared}
theorem hint_set {r:Addr} {Q:Bool→Shared→Prop} (hT:s.TypeIs (.ref r) "set") (h:Q false s):wpAny (model prog w) A (Builtin.List.listLengthHint (.ref r)) Q E s:=by
  unfold Builtin.List.listLengthHint
  refine wpAny_bind (wpAny_specialOf hT PySem.F.slot_set_len.lookup ?_)
  generalize hid:("set.__len__":String) = id0
  wp_delta
  rw [show splitId id0 = some ("set","__len__") from by subst hid; decide +kernel]
  subst hid
  refine wpAny_bind (wpAny_isInstance (T:="set") (b:=true) hT (by rw [isSubtype_type]; kernel_rfl) ?_)
  refine wpAny_ite_split (fun hab=>absurd hab (by decide)) (fun _=>?_)
  refine wpAny_ite_split (fun _=>?_) (fun hab=>absurd (by decide +kernel) hab)
  refine wpAny_bind (wpAny_typeOf hT ?_)
  exact wpAny_pure h
end
theorem src_set {prog:Program} {w:World} {a:Addr} {es:Array (Int×Value)} {ep:Nat} {pl:List Nat} :
    KdlSrc prog w "set" a a es.size (fun i v=>(ordOf w a ep es)[i]?.map (·.2) = some v) (fun h=>SetAt w h a es ep pl) where
  type:=fun _ S=>S.type
  there:=fun _ S=>⟨Heap.lt_size S.ob,Heap.lt_size S.ob⟩
  keep:=fun _ _ S k=>S.at fun o e=>k a (.inl rfl) o e
  notList:=by decide
  notTuple:=by decide
  hint:=fun _ _ _ _ S q=>hint_set S.type q
  iter:=fun A s hh S=>⟨{ cls:=.type "set_iterator",data:=.fields #[rawInt 0,rawInt 0,.ref a,rawInt es.size,rawInt ep] },_,(fun _ _ q=>iter_set S q),
    walks_set hh _ a (Nat.ne_of_lt (Heap.lt_size S.ob)) es ep pl,⟨⟨0,Heap.get?_push_size _ rfl,fun _=>rfl⟩,S.at fun o e=>Heap.get?_push_of_some _ e⟩⟩
theorem Mem.allI {ks:List Int} {es:List (Int×Value)} (h:Mem ks es):∀ (v:Value),v∈es.map (·.2)→∃ k t,v = Value.int k t:=fun v hv=>by
  induction h with
  | nil=>simp at hv
  | cons r _ ih =>
    obtain ⟨t,e⟩:=r
    subst e
    rcases List.mem_cons.mp hv with rfl | hv
    · exact ⟨_,t,rfl⟩
    · exact ih hv
def num:Value→Int
  | .int k _=>k
  | _=>0
theorem nums_are:∀ {vs:List Value},(∀ v∈vs,∃ k t,v = Value.int k t)→IntsAre vs (vs.map num)
  | [],_=>.nil
  | v::r,h=>by
    obtain ⟨k,t,rfl⟩:=h v List.mem_cons_self
    exact .cons k t (nums_are fun v hv=>h v (List.mem_cons_of_mem _ hv))
theorem Mem.nums:∀ {ks:List Int} {es:List (Int×Value)},Mem ks es→(es.map (·.2)).map num = ks
  | _,_,.nil=>rfl
  | _,_,.cons ⟨t,e⟩ r=>by
    subst e
    show _::_ = _
    rw [← Mem.nums r]
    rfl
section
variable {prog:Program} {w:World} {A:Around} {E:Value→Shared→Prop} {s:Shared}
theorem sorted_set {a:Addr} {ks:List Int} {Q:Value→Shared→Prop} (hh:A.handled = none) (S:SetG s.heap a (!byText w) ks)
    (h:∀ h' tk D (out:List Value) (zs:List Int) n,IntsAre out zs→zs.Perm ks→zs.Pairwise (·≤·)→(∀ b o,s.heap.get? b = some o→h'.get? b = some o)→(∀ b o,s.heap.get? b = some o→b≠D)→h'.get? D = some { cls:=.type "list",data:=.seq out.toArray n }→Q (.ref D) { s with heap:=h',toks:=tk }) :
    wpAny (model prog w) A (call (.builtin "sorted") [.ref a]) Q E s:=by
  obtain ⟨es,ep,pl,ho,hm,hp⟩:=S.at_
  have hsz:es.size = ks.length:=by rw [← Array.length_toList]; exact (PySem.Paired.length hm).symm
  have SA:SetAt w s.heap a es ep pl:=⟨ho,by rw [hsz]; exact S.few,by rw [hsz]; exact hp⟩
  refine call_function_entry kind_sorted plain_sorted entry_sorted (args_sorted1 _) ?_
  unfold Builtin.«sorted»
  refine wpAny_bind (m:=checkCount "sorted" 1 1 _) (wpAny_pure ?_)
  refine wpAny_bind (kdu_collect (A:=A.in1) (src_set (es:=es) (ep:=ep) (pl:=pl)) hh SA (by rw [hsz,sizeLine_eq]; have:=S.few; omega) fun h' tk acc kp hacc=>?_)
  have hl:acc.toList.length = ks.length:=by rw [Array.length_toList,hacc.1,hsz]
  have eqv:acc.toList = (ordOf w a ep es).toList.map (·.2):=by
    refine List.ext_getElem? fun i=>?_
    rw [Array.getElem?_toList,List.getElem?_map,Array.getElem?_toList]
    by_cases hi:i < acc.size
    · have q:=hacc.2 i acc[i] (by simp [hi])
      rw [q]
      simp [hi]
    · rw [Array.getElem?_eq_none (by omega),Array.getElem?_eq_none (by rw [ord_size,← hacc.1]; omega)]
      rfl
  have prm:(acc.toList.map num).Perm ks:=by
    rw [eqv,← hm.nums]
    exact ((ord_perm w a ep es).map _).map _
  have ai:IntsAre acc.toList (acc.toList.map num):=nums_are fun v hv=>by
    rw [eqv] at hv
    exact hm.allI v (((ord_perm w a ep es).map (·.2)).mem_iff.mp hv)
  refine wpAny_bind (wpAny_newList ?_ (by rw [hl,sizeLine_eq]; have:=S.few; omega))
  have hoL:(h'.push { cls:=.type "list",data:=.seq acc.toList.toArray }).get? h'.objs.size = some (seqObj "list" acc.toList.toArray 0):=Heap.get?_push_size _ rfl
  refine wpAny_bind (wpAny_holding (wpAny_call_entry slot_list_sort ⟨_,hoL,rfl⟩ entry_list_sort (list_sort_tree hoL ai (by rw [hl]; have:=S.few; omega) fun out zs a1 a2 a3=>⟨_,rfl,?_⟩) (args_list_sort _)))
  refine wpAny_pure ⟨_,rfl,?_⟩
  obtain ⟨e,he⟩:=sortedHeap_at (h:=h'.push { cls:=.type "list",data:=.seq acc.toList.toArray }) (out:=out) hoL
  have hlt:∀ b o,s.heap.get? b = some o→b < h'.objs.size:=fun b o q=>Heap.lt_size (kp b o q)
  refine h _ tk h'.objs.size out.toList zs e a1 (a2.trans prm) a3 (fun b o q=>?_) ?_ ?_
  · have hb:=hlt b o q
    rw [sortedHeap_old (Nat.ne_of_lt hb) (by rw [size_push']; exact Nat.lt_succ_of_lt hb)]
    exact Heap.get?_push_of_some _ (kp b o q)
  · exact fun b o q=>Nat.ne_of_lt (hlt b o q)
  · simpa using he
end
end Ev

namespace L2
open PySem PySem.Spec PyProof.Rows
theorem ObjOk.there {P:Program} {w:World} {H:Hp} {h:Heap} {a:Addr} {o:HO} (x:ObjOk P w H h a o):∃ ob,h.get? a = some ob:=by
  cases o with
  | lst xs=>obtain ⟨_,_,_,_,e⟩:=x; exact ⟨_,e⟩
  | tup xs=>obtain ⟨_,_,_,o,e,_⟩:=x; exact ⟨_,e⟩
  | dK kvs=>obtain ⟨_,_,_,_,o,_,_,e,_⟩:=x; exact ⟨_,e⟩
  | dT kvs=>obtain ⟨_,_,_,_,o,_,_,e,_⟩:=x; exact ⟨_,e⟩
  | set S n=>obtain ⟨o,_,_,_,e,_⟩:=x; exact ⟨_,e⟩
  | ins C dx fs=>obtain ⟨_,_,_,e,_⟩:=x; exact ⟨_,e⟩
  | own y=>exact x
  | xd fs=>obtain ⟨_,⟨_,_,_,e,_⟩,_⟩:=x; exact ⟨_,e⟩
  | rng lo hi=>obtain ⟨_,_,_,e⟩:=x; exact ⟨_,e⟩
  | frz ob u=>obtain ⟨e,_⟩:=x; exact ⟨_,e⟩
  | tbl ps=>exact ⟨_,(show h.get? a = some _ from x)⟩
  | met f y=>exact ⟨_,(show h.get? a = some _ from x)⟩
  | ext φ=>obtain ⟨_,e,_⟩:=x; exact e
section
variable {X:Cx} {pins:List (Addr×Obj)} {σ:St} {H:Hp} {s:Shared} {h':Heap} {a:Addr} {o:HO} {t':Nat}
theorem Inv.off (I:Inv X pins σ H s) (ne:∀ b ob,s.heap.get? b = some ob→b≠a):H a = none:=by
  cases q:H a with
  | none=>rfl
  | some u =>
    obtain ⟨ob,e⟩:=(I.hok a u q).there
    exact absurd rfl (ne a ob e)
theorem Inv.laidN (I:Inv X pins σ H s) (k:∀ b u,s.heap.get? b = some u→h'.get? b = some u) (ne:∀ b ob,s.heap.get? b = some ob→b≠a) (new:ObjOk X.prog X.w (upd H a o) h' a o) :
    Inv X pins σ (upd H a o) { s with heap:=h',toks:=t' }:=by
  have hn:=I.off ne
  refine I.un ⟨fun b u q _ _ _=>k b u q,fun b u q _ _ _=>⟨u.slots,k b u q⟩,fun b u q n _=>?_,fun b u q _=>⟨u,k b u q⟩,fun b xs q=>?_,fun b u xs q=>?_,fun b ps q=>⟨#[],?_⟩⟩ fun b u e=>?_
  · rw [upd_ne (ne b u q)]; exact n
  · rw [upd_ne (ne_of_none q hn)]; exact q
  · rw [upd_ne (ne_of_none q hn)]; exact q
  · rw [upd_ne (ne_of_none q hn),q]; simp
  · by_cases hb:b = a
    · subst hb; rw [upd_same] at e; cases e; exact new
    · rw [upd_ne hb] at e
      exact (I.hok b u e).stay (fun c v _ q=>k c v q) (fun c q=>by rw [upd_ne (ne_of_none q hn)]; exact q) fun c xs q=>by rw [upd_ne (ne_of_none q hn)]; exact q
end
section
variable {X:Cx}
theorem call_sortedS (hc:X.calm = true):CallR X (.builtin "sorted") (fun xs H Q=>∃ (a:Addr) (ks:List Int),xs = [.ref a]∧H a = some (SetO X.w a ks) ∧
    ∀ (p:Addr) (zs:List Int),H p = none→zs.Perm ks→zs.Pairwise (·≤·)→ks.Nodup→Q (.ref p) (upd H p (.lst (zs.map V.int)))):=by
  intro pins s σ H xs us Q I r h
  obtain ⟨a,ks,rfl,ha,q⟩:=h
  obtain ⟨u,rfl,ru⟩:=vals1 r
  cases ru
  obtain ⟨S,_,_⟩:=(show ObjOk X.prog X.w H s.heap a (SetO X.w a ks) from I.hok a _ ha)
  refine Ev.sorted_set (I.ok.hd hc) S fun h' tk D out zs n h1 h2 h3 kp ne e=>?_
  refine ⟨.ref D,upd H D (.lst (zs.map V.int)),I.laidN kp ne ⟨?_,out,n,vals_of_ints h1,e⟩,rfl,q D zs (I.off ne) h2 h3 S.nd⟩
  rw [List.length_map,h2.length_eq,sizeLine_eq]
  have:=S.few
  omega
end
end L2

namespace L2
open PySem PySem.Spec PyProof.Rows
section
variable {X:Cx}
theorem call_range2:CallR X (.type "range") (fun xs H Q=>∃ i j:Int,xs = [.int i,.int j]∧∀ p,H p = none→Q (.ref p) (upd H p (.rng i j))):=by
  intro pins s σ H xs us Q I r h
  obtain ⟨i,j,rfl,q⟩:=h
  obtain ⟨u,v,rfl,ru,rv⟩:=vals2 r
  obtain ⟨t,rfl⟩:=ru
  obtain ⟨t',rfl⟩:=rv
  refine PySem.call_range_2 ?_
  have hf:=I.hok.fresh (Nat.le_refl s.heap.objs.size)
  exact ⟨.ref s.heap.objs.size,upd H s.heap.objs.size (.rng i j),I.laid (fun _ _ e=>Heap.get?_push_of_some _ e) (Nat.le_refl _) ⟨_,_,_,Heap.get?_push_size _ rfl⟩,rfl,q _ hf⟩
theorem items_ints {a:Int}:∀ {acc:List Value} {k:Nat},(∀ (j:Nat) (v:Value),acc[j]? = some v→∃ t,v = .int (a+((k+j:Nat):Int)*1) t)→Vals ((List.range' k acc.length).map fun (i:Nat)=>V.int (a+(i:Int))) acc
  | [],_,_=>.nil
  | v::r,k,h=>by
    obtain ⟨t,e⟩:=h 0 v rfl
    subst e
    show Vals (V.int (a+(k:Int))::_) _
    refine .cons ⟨t,by simp⟩ (items_ints fun j w' hj=>?_)
    obtain ⟨t',e'⟩:=h (j+1) w' (by simpa using hj)
    exact ⟨t',by rw [e']; congr 3; omega⟩
theorem call_listR (hc:X.calm = true):CallR X (.type "list") (fun xs H Q=>∃ (r:Addr) (lo hi:Int),xs = [.ref r]∧H r = some (.rng lo hi)∧(-(2 ^ 62)≤lo∧lo < 2 ^ 62∧-(2 ^ 62)≤hi∧hi < 2 ^ 62)∧hi - lo≤1000 ∧
    ∀ p,H p = none→Q (.ref p) (upd H p (.lst ((List.range (hi - lo).toNat).map fun (i:Nat)=>V.int (lo+(i:Int)))))):=by
  intro pins s σ H xs us Q I r h
  obtain ⟨a,lo,hi,rfl,ha,⟨b1,b2,b3,b4⟩,b5,q⟩:=h
  obtain ⟨u,rfl,ru⟩:=vals1 r
  cases ru
  obtain ⟨t,u,v,e⟩:=(show ObjOk X.prog X.w H s.heap a (.rng lo hi) from I.hok a _ ha)
  have en:Builtin.Range.rangeSize lo hi 1 = (((hi - lo).toNat:Nat):Int):=by rw [rangeSize_one]; split<;>omega
  refine call_list_range (I.ok.hd hc) (show IsRange s.heap a lo hi 1 t u v from e) (small_one b1 b2 b3 b4) en (by omega) fun h' tk acc c kp he hacc=>?_
  have hf:=I.hok.fresh (Nat.le_refl s.heap.objs.size)
  have hl:acc.toList.length = (hi - lo).toNat:=by rw [Array.length_toList]; exact hacc.1
  have vv:Vals ((List.range (hi - lo).toNat).map fun (i:Nat)=>V.int (lo+(i:Int))) acc.toList:=by
    have z:=items_ints (a:=lo) (acc:=acc.toList) (k:=0) fun j v hj=>by
      obtain ⟨t,e⟩:=hacc.2 j v (by rw [← Array.getElem?_toList]; exact hj)
      exact ⟨t,by rw [e]; simp⟩
    rw [hl,← List.range_eq_range'] at z
    exact z
  refine ⟨.ref s.heap.objs.size,upd H s.heap.objs.size (.lst ((List.range (hi - lo).toNat).map fun (i:Nat)=>V.int (lo+(i:Int)))),I.laid kp (Nat.le_refl _) ⟨?_,acc.toList,c,vv,by simpa using he⟩,rfl,q _ hf⟩
  rw [List.length_map,List.length_range,sizeLine_eq]
  omega
theorem call_maxL (hc:X.calm = true):CallR X (.builtin "max") (fun xs H Q=>∃ (l:Addr) (ns:List Int),xs = [.ref l]∧SqL X.K H l (ns.map V.int)∧ns≠[]∧∀ M,M∈ns→(∀ a,a∈ns→a≤M)→Q (.int M) H):=by
  intro pins s σ H xs us Q I r h
  obtain ⟨l,ns,rfl,hq,hne,q⟩:=h
  obtain ⟨u,rfl,ru⟩:=vals1 r
  cases ru
  obtain ⟨its,rv,p,hz⟩:=I.list hq
  have hi:=ints_vals rv
  have nn:numsOf its = ns:=hi.numsOf
  have lst:s.heap.IsList l its.toArray:=p.isList
  obtain ⟨xs,ex⟩:=(show AllInts its.toArray from hi.allInts).items
  have en:numsOf its = numsOf (intItems xs).toList:=by rw [← ex]
  rw [nums_intItems,nn] at en
  have hsz:0 < xs.size:=by
    have z:ns.length = xs.size:=by rw [en]; simp
    rw [← z]
    exact List.length_pos_iff.mpr hne
  rw [ex] at lst
  refine max_intList (I.ok.hd hc) lst hsz fun v h' tk hv hk=>?_
  obtain ⟨t,rfl⟩:=intItems_at hv
  obtain ⟨h1,h2⟩:=argBest_gt (numAt xs) (xs.size - 1)
  refine ⟨.int _,H,I.kept hk,⟨t,rfl⟩,q _ ?_ fun a ha=>?_⟩
  · rw [numAt_eq,en]; exact getD_mem (by rw [List.length_map,Array.length_toList]; omega)
  · rw [en] at ha
    obtain ⟨j,hj,e⟩:=mem_getD ha
    subst e
    rw [List.length_map,Array.length_toList] at hj
    rw [← numAt_eq]; exact h2 j (by omega)
end
end L2

namespace L2
open PySem PySem.Spec PyProof.Rows
theorem kit_same {K:PySem.W.Frag} {t:Value}:PySem.W.kitOne K t t = some true:=by
  unfold PySem.W.kitOne
  rw [if_pos (beq_self_eq_true _)]
section
variable {X:Cx}
theorem call_isi:CallR X (.builtin "isinstance") (fun xs H Q=>∃ (x:V) (T:String) (t:Value) (b:Bool),xs = [x,.ty T]∧TyOf X.K H x t∧PySem.W.kitOne X.K t (.type T) = some b∧Q (.bl b) H):=by
  intro pins s σ H xs us Q I r h
  obtain ⟨x,T,t,b,rfl,ty,e,q⟩:=h
  obtain ⟨u,v,rfl,ru,rv⟩:=vals2 r
  cases (show v = Value.type T from rv)
  exact isinst_ok I ru ty e fun tk=>⟨.bl b,H,I.tok tk,rfl,q⟩
end
end L2

namespace Mi
def cell (ns:List Int) (k:Nat):Int:=ns.getD k 0
def put (x:Int):List Int→List Int
  | []=>[x]
  | y::r=>if x < y then x::y::r else if x = y then y::r else y::put x r
def sset:List Int→List Int
  | []=>[]
  | x::r=>put x (sset r)
theorem mem_put {x z:Int}:∀ {l:List Int},z∈put x l↔z = x∨z∈l
  | []=>by simp [put]
  | y::r=>by
    unfold put
    split
    · simp
    · split
      · rename_i e
        subst e
        simp
      · rw [List.mem_cons,mem_put (l:=r),List.mem_cons]
        constructor
        · rintro (h | h | h)
          · exact .inr (.inl h)
          · exact .inl h
          · exact .inr (.inr h)
        · rintro (h | h | h)
          · exact .inr (.inl h)
          · exact .inl h
          · exact .inr (.inr h)
theorem put_rises {x:Int}:∀ {l:List Int},l.Pairwise (· < ·)→(put x l).Pairwise (· < ·)
  | [],_=>by simp [put]
  | y::r,h=>by
    obtain ⟨h1,h2⟩:=List.pairwise_cons.mp h
    unfold put
    split
    · rename_i c
      refine List.pairwise_cons.mpr ⟨fun z hz=>?_,h⟩
      rcases List.mem_cons.mp hz with rfl | hz
      · exact c
      · exact Int.lt_trans c (h1 z hz)
    · split
      · exact h
      · refine List.pairwise_cons.mpr ⟨fun z hz=>?_,put_rises h2⟩
        rcases mem_put.mp hz with rfl | hz
        · omega
        · exact h1 z hz
theorem mem_sset {z:Int}:∀ {l:List Int},z∈sset l↔z∈l
  | []=>by simp [sset]
  | x::r=>by rw [sset,mem_put,mem_sset (l:=r),List.mem_cons]
theorem sset_rises:∀ (l:List Int),(sset l).Pairwise (· < ·)
  | []=>.nil
  | x::r=>put_rises (sset_rises r)
theorem rises_eq:∀ {a b:List Int},a.Pairwise (· < ·)→b.Pairwise (· < ·)→(∀ x,x∈a↔x∈b)→a = b
  | [],[],_,_,_=>rfl
  | [],y::r,_,_,h=>absurd ((h y).mpr List.mem_cons_self) (by simp)
  | x::r,[],_,_,h=>absurd ((h x).mp List.mem_cons_self) (by simp)
  | x::r,y::q,ha,hb,h=>by
    obtain ⟨a1,a2⟩:=List.pairwise_cons.mp ha
    obtain ⟨b1,b2⟩:=List.pairwise_cons.mp hb
    have e:x = y:=by
      rcases List.mem_cons.mp ((h x).mp List.mem_cons_self) with e | e
      · exact e
      · rcases List.mem_cons.mp ((h y).mpr List.mem_cons_self) with e' | e'
        · exact e'.symm
        · have:=a1 y e'
          have:=b1 x e
          omega
    subst e
    have hr:∀ z,z∈r↔z∈q:=fun z=>by
      constructor
      · intro hz
        rcases List.mem_cons.mp ((h z).mp (List.mem_cons_of_mem _ hz)) with e | e
        · subst e
          exact absurd (a1 z hz) (by omega)
        · exact e
      · intro hz
        rcases List.mem_cons.mp ((h z).mpr (List.mem_cons_of_mem _ hz)) with e | e
        · subst e
          exact absurd (b1 z hz) (by omega)
        · exact e
    rw [rises_eq a2 b2 hr]
theorem sorted_is {zs ks ns:List Int} (h1:zs.Perm ks) (h2:zs.Pairwise (·≤·)) (h3:ks.Nodup) (h4:∀ x,x∈ks↔x∈ns):zs = sset ns:=by
  have nd:zs.Nodup:=h1.nodup_iff.mpr h3
  have lt:zs.Pairwise (· < ·):=by
    have z:zs.Pairwise fun a b=>a≤b∧a≠b:=List.Pairwise.and h2 nd
    exact z.imp fun ⟨a,b⟩=>by omega
  exact rises_eq lt (sset_rises ns) fun x=>by rw [h1.mem_iff,h4,mem_sset]
abbrev Room:=Int×Int×List Int
def ways (c many:Int):List Int :=
  if c / 16 % 9 = 8 then (List.range (many - c / 32 % many).toNat).map fun (i:Nat)=>c / 32 % many+(i:Int)
  else sset (([c / 32 % many,c / 2560 % many,c / 204800 % many]:List Int).take (1+c / 16 % 3).toNat)
def room (c many ranks:Int):Room:=(c % 2,c / 2 % ranks,ways c many)
def many (ns:List Int) (k:Nat) (most:Int):Int:=1+cell ns k % most
def hall (ns:List Int) (k:Nat) (most ranks:Int):List Room :=
  (List.range (many ns k most).toNat).map fun (j:Nat)=>room (cell ns (k+1+j)+77777*(j:Int)) (many ns k most) ranks
theorem many_pos {ns:List Int} {k:Nat} {most:Int} (h:0 < most):1≤many ns k most∧many ns k most≤most:=by
  unfold many
  have h1:=Int.emod_nonneg (cell ns k) (show most≠0 by omega)
  have h2:=Int.emod_lt_of_pos (cell ns k) h
  omega
theorem hall_len {ns:List Int} {k:Nat} {most ranks:Int}:(hall ns k most ranks).length = (many ns k most).toNat:=by simp [hall]
end Mi
namespace L2
open PySem
def Scr (K:PySem.W.Frag) (H:Hp) (a:Addr) (ns:List Int):Prop :=
  (∃ o,H a = some (.frz o (.lst (ns.map V.int)))) ∨
    ∃ (o:Obj) (its:Array Value) (n:Nat),K.lookup a = some o∧o.cls = .type "list"∧o.dict = none∧o.data = .seq its n∧its.size≤sizeLine∧Vals (ns.map V.int) its.toList
theorem Scr.of {K:PySem.W.Frag} {H:Hp} {a:Addr} {ns:List Int} (h:SqL K H a (ns.map V.int)) (o:Only H):Scr K H a ns:=by
  rcases h with (h | ⟨o',h⟩) | h
  · rcases o a with e | ⟨_,_,e⟩
    · rw [e] at h; cases h
    · rw [e] at h; cases h
  · exact .inl ⟨o',h⟩
  · exact .inr h
theorem Scr.sql {K:PySem.W.Frag} {H:Hp} {a:Addr} {ns:List Int} (h:Scr K H a ns):SqL K H a (ns.map V.int):=by
  rcases h with ⟨o,h⟩ | h
  · exact .inl (.inr ⟨o,h⟩)
  · exact .inr h
def SameX (p:Addr) (H H':Hp):Prop:=∀ b o,H b = some o→b≠p→H' b = some o
theorem Scr.keep {K:PySem.W.Frag} {H H':Hp} {a p:Addr} {ns:List Int} {xs:List V} (h:Scr K H a ns) (hp:H p = some (.lst xs)) (k:SameX p H H'):Scr K H' a ns:=by
  rcases h with ⟨o,h⟩ | h
  · refine .inl ⟨o,k _ _ h ?_⟩
    rintro rfl
    rw [hp] at h
    cases h
  · exact .inr h
theorem Scr.same {K:PySem.W.Frag} {H H':Hp} {a:Addr} {ns:List Int} (h:Scr K H a ns) (k:Same H H'):Scr K H' a ns:=by
  rcases h with ⟨o,h⟩ | h
  · exact .inl ⟨o,k _ _ h⟩
  · exact .inr h
theorem same_new {H:Hp} {p:Addr} (h:H p = none) (o:HO):Same H (upd H p o):=fun b u q=>by rw [upd_ne (ne_of_none q h)]; exact q
theorem samex_upd {H:Hp} {p:Addr} {o:HO}:SameX p H (upd H p o):=fun b u q hb=>by rw [upd_ne hb]; exact q
theorem SameX.trans {p:Addr} {H H1 H2:Hp} (a:SameX p H H1) (b:SameX p H1 H2):SameX p H H2:=fun c o h hc=>b c o (a c o h hc) hc
theorem Same.x {p:Addr} {H H':Hp} (a:Same H H'):SameX p H H':=fun c o h _=>a c o h
def RoomAt (H:Hp) (r:Mi.Room) (v:V):Prop:=∃ p q,v = .ref p∧H p = some (.tup [.int r.1,.int r.2.1,.ref q])∧H q = some (.tup (r.2.2.map V.int))
def HallAt (H:Hp) (l:Addr) (hall:List Mi.Room):Prop:=∃ vs,H l = some (.lst vs)∧Paired (RoomAt H) hall vs
theorem RoomAt.tups {H H':Hp} {r:Mi.Room} {v:V} (h:RoomAt H r v) (k:∀ b xs,H b = some (.tup xs)→H' b = some (.tup xs)):RoomAt H' r v:=by
  obtain ⟨p,q,e,h1,h2⟩:=h
  exact ⟨p,q,e,k _ _ h1,k _ _ h2⟩
theorem rooms_tups {H H':Hp} {hall:List Mi.Room} {vs:List V} (h:Paired (RoomAt H) hall vs) (k:∀ b xs,H b = some (.tup xs)→H' b = some (.tup xs)):Paired (RoomAt H') hall vs:=Paired.imp' (fun _ _ z=>z.tups k) h
theorem HallAt.same {H H':Hp} {l:Addr} {hall:List Mi.Room} (h:HallAt H l hall) (k:Same H H'):HallAt H' l hall:=by
  obtain ⟨vs,e,p⟩:=h
  exact ⟨vs,k _ _ e,rooms_tups p fun b xs q=>k _ _ q⟩
theorem cut_to (xs:List V) {i:Int} (h:0≤i):cutV xs none (some i) = xs.take i.toNat:=by
  have e:i = ((i.toNat:Nat):Int):=by omega
  unfold cutV
  rw [HT.sIx_none,e,HT.sIx_nat,Nat.sub_zero,List.drop_zero]
  rw [show (((i.toNat:Nat):Int)).toNat = i.toNat by omega]
  rcases Nat.le_total i.toNat xs.length with z | z
  · rw [Nat.min_eq_left z]
  · rw [Nat.min_eq_right z,List.take_of_length_le (Nat.le_refl _),List.take_of_length_le z]
theorem cut_from (xs:List V) {i:Int} (h:0≤i):cutV xs (some i) none = xs.drop i.toNat:=by
  have e:i = ((i.toNat:Nat):Int):=by omega
  unfold cutV
  rw [HT.sIx_none,e,HT.sIx_nat]
  rw [show (((i.toNat:Nat):Int)).toNat = i.toNat by omega]
  rcases Nat.le_total i.toNat xs.length with z | z
  · rw [Nat.min_eq_left z,List.take_of_length_le (by rw [List.length_drop]; omega)]
  · rw [Nat.min_eq_right z,Nat.sub_self,List.take_zero,List.drop_eq_nil_of_le z]
end L2

namespace L2
open PySem PySem.Spec PyProof.Rows
inductive T where
  | non | bl (b:Bool) | int (i:Int) | str (x:Str) | tup (l:List T) | lst (l:List T)
mutual
def Rep (K:PySem.W.Frag) (H:Hp):T→V→Prop
  | .non,v=>v = .non
  | .bl b,v=>v = .bl b
  | .int i,v=>v = .int i
  | .str x,v=>v = .str x
  | .tup l,v=>∃ a xs,v = .ref a∧SqT K H a xs∧Reps K H l xs
  | .lst l,v=>∃ a xs,v = .ref a∧SqL K H a xs∧Reps K H l xs
def Reps (K:PySem.W.Frag) (H:Hp):List T→List V→Prop
  | [],[]=>True
  | t::r,x::q=>Rep K H t x∧Reps K H r q
  | [],_::_=>False
  | _::_,[]=>False
end
mutual
def eqT:T→T→Bool
  | .non,.non=>true
  | .bl a,.bl b=>a == b
  | .int a,.int b=>a == b
  | .str a,.str b=>a == b
  | .bl a,.int b=>(if a then 1 else 0) == b
  | .int a,.bl b=>a == (if b then 1 else 0)
  | .tup a,.tup b=>eqTs a b
  | .lst a,.lst b=>eqTs a b
  | _,_=>false
def eqTs:List T→List T→Bool
  | [],[]=>true
  | a::r,b::q=>eqT a b && eqTs r q
  | _,_=>false
end
mutual
def deep:T→Nat
  | .tup l=>deeps l+1
  | .lst l=>deeps l+1
  | _=>0
def deeps:List T→Nat
  | []=>0
  | t::r=>max (deep t) (deeps r)
end
mutual
theorem eqT_refl:∀ t:T,eqT t t = true
  | .non=>rfl
  | .bl b=>by simp [eqT]
  | .int b=>by simp [eqT]
  | .str b=>by simp [eqT]
  | .tup l=>by simp [eqT,eqTs_refl l]
  | .lst l=>by simp [eqT,eqTs_refl l]
theorem eqTs_refl:∀ l:List T,eqTs l l = true
  | []=>rfl
  | t::r=>by simp [eqTs,eqT_refl t,eqTs_refl r]
end
theorem Reps.len {K:PySem.W.Frag} {H:Hp}:∀ {l:List T} {xs:List V},Reps K H l xs→l.length = xs.length
  | [],[],_=>rfl
  | _::r,_::q,h=>by
    obtain ⟨_,h⟩:=(show _∧Reps K H r q from by simpa [Reps] using h)
    rw [List.length_cons,List.length_cons,Reps.len h]
  | [],_::_,h=>by simp [Reps] at h
  | _::_,[],h=>by simp [Reps] at h
theorem Reps.get {K:PySem.W.Frag} {H:Hp}:∀ {l:List T} {xs:List V},Reps K H l xs→∀ {i:Nat} {t:T},l[i]? = some t→∃ x,xs[i]? = some x∧Rep K H t x
  | [],[],_,i,t,e=>by simp at e
  | u::r,y::q,h,i,t,e=>by
    obtain ⟨h1,h⟩:=(show Rep K H u y∧Reps K H r q from by simpa [Reps] using h)
    cases i with
    | zero =>
      simp only [List.getElem?_cons_zero,Option.some.injEq] at e
      subst e
      exact ⟨y,rfl,h1⟩
    | succ i=>exact Reps.get h (i:=i) (by simpa using e)
  | [],_::_,h,_,_,_=>by simp [Reps] at h
  | _::_,[],h,_,_,_=>by simp [Reps] at h
theorem deeps_get:∀ {l:List T} {i:Nat} {t:T},l[i]? = some t→deep t≤deeps l
  | [],i,t,e=>by simp at e
  | u::r,0,t,e=>by
    simp only [List.getElem?_cons_zero,Option.some.injEq] at e
    subst e
    simp [deeps]
    omega
  | u::r,i+1,t,e=>by
    have:=deeps_get (l:=r) (i:=i) (by simpa using e)
    simp [deeps]
    omega
theorem eqTs_all:∀ {a b:List T} (_:a.length = b.length),eqTs a b = (List.range a.length).all fun i=>eqT (a.getD i .non) (b.getD i .non)
  | [],[],_=>by simp [eqTs]
  | x::r,y::q,h=>by
    have ih:=eqTs_all (a:=r) (b:=q) (by simpa using h)
    rw [eqTs,ih,List.length_cons,List.range_succ_eq_map,List.all_cons,List.all_map]
    rfl
  | [],_::_,h=>by simp at h
  | _::_,[],h=>by simp at h
theorem eqTs_len:∀ {a b:List T},a.length≠b.length→eqTs a b = false
  | [],[],h=>absurd rfl h
  | x::r,y::q,h=>by rw [eqTs,eqTs_len (a:=r) (b:=q) (by simpa using h),Bool.and_false]
  | [],_::_,_=>by simp [eqTs]
  | _::_,[],_=>by simp [eqTs]
section
variable {X:Cx} {pins:List (Addr×Obj)} {σ:St} {H:Hp} {s:Shared}
mutual
theorem Rep.uniq (I:Inv X pins σ H s):∀ {t u:T} {x:V},Rep X.K H t x→Rep X.K H u x→t = u
  | .non,u,x,h1,h2=>by
    simp only [Rep] at h1
    subst h1
    cases u<;>simp [Rep] at h2<;>rfl
  | .bl _,u,x,h1,h2=>by
    simp only [Rep] at h1
    subst h1
    cases u<;>simp [Rep] at h2<;>rw [h2]
  | .int _,u,x,h1,h2=>by
    simp only [Rep] at h1
    subst h1
    cases u<;>simp [Rep] at h2<;>rw [h2]
  | .str _,u,x,h1,h2=>by
    simp only [Rep] at h1
    subst h1
    cases u<;>simp [Rep] at h2<;>rw [h2]
  | .tup l,u,x,h1,h2=>by
    simp only [Rep] at h1
    obtain ⟨a,xs,rfl,hq,hr⟩:=h1
    cases u with
    | tup l' =>
      simp only [Rep] at h2
      obtain ⟨a',xs',e,hq',hr'⟩:=h2
      cases e
      rw [I.tuple_inj hq' hq] at hr'
      rw [Reps.uniq I hr hr']
    | lst l' =>
      simp only [Rep] at h2
      obtain ⟨a',xs',e,hq',hr'⟩:=h2
      cases e
      obtain ⟨_,_,p,_⟩:=I.tuple hq
      obtain ⟨_,_,p',_⟩:=I.list hq'
      exact absurd rfl (SeqAt.ne_of_list_tuple p'.isList (show s.heap.IsTuple a _ from p))
    | _=>simp [Rep] at h2
  | .lst l,u,x,h1,h2=>by
    simp only [Rep] at h1
    obtain ⟨a,xs,rfl,hq,hr⟩:=h1
    cases u with
    | lst l' =>
      simp only [Rep] at h2
      obtain ⟨a',xs',e,hq',hr'⟩:=h2
      cases e
      rw [I.list_inj hq' hq] at hr'
      rw [Reps.uniq I hr hr']
    | tup l' =>
      simp only [Rep] at h2
      obtain ⟨a',xs',e,hq',hr'⟩:=h2
      cases e
      obtain ⟨_,_,p,_⟩:=I.tuple hq'
      obtain ⟨_,_,p',_⟩:=I.list hq
      exact absurd rfl (SeqAt.ne_of_list_tuple p'.isList (show s.heap.IsTuple a _ from p))
    | _=>simp [Rep] at h2
theorem Reps.uniq (I:Inv X pins σ H s):∀ {l m:List T} {xs:List V},Reps X.K H l xs→Reps X.K H m xs→l = m
  | [],m,xs,h1,h2=>by
    cases xs with
    | nil=>cases m with
      | nil=>rfl
      | cons _ _=>simp [Reps] at h2
    | cons _ _=>simp [Reps] at h1
  | t::r,m,xs,h1,h2=>by
    cases xs with
    | nil=>simp [Reps] at h1
    | cons x q =>
      cases m with
      | nil=>simp [Reps] at h2
      | cons u r' =>
        simp only [Reps] at h1 h2
        rw [Rep.uniq I h1.1 h2.1,Reps.uniq I h1.2 h2.2]
end
open PySem.SeqAt in
theorem eqAt_T (I:Inv X pins σ H s):∀ (n:Nat) {t u:T} {x y:V} {v w:Value} {A:Around},deep t≤n→Rep X.K H t x→Rep X.K H u y→RelV x v→RelV y w→A.units+n < cLine→EqAt A s v w (eqT t u):=by
  intro n
  induction n with
  | zero =>
    intro t u x y v w A hd h1 h2 r1 r2 hu
    have hu':A.units < cLine:=by omega
    cases t with
    | tup l=>simp [deep] at hd
    | lst l=>simp [deep] at hd
    | non =>
      simp only [Rep] at h1
      subst h1
      cases r1
      cases u with
      | non=>simp only [Rep] at h2; subst h2; cases r2; exact EqAt.same _
      | bl b=>simp only [Rep] at h2; subst h2; cases r2; exact EqAt.none_bool _
      | int b=>simp only [Rep] at h2; subst h2; obtain ⟨t,rfl⟩:=r2; exact EqAt.none_int _ _
      | str b=>simp only [Rep] at h2; subst h2; obtain ⟨t,rfl⟩:=r2; exact EqAt.none_str _ _
      | tup l =>
        simp only [Rep] at h2; obtain ⟨a,xs,rfl,hq,_⟩:=h2; cases r2
        obtain ⟨_,_,p,_⟩:=I.tuple hq
        exact EqAt.none_tuple (show s.heap.IsTuple a _ from p) hu'
      | lst l =>
        simp only [Rep] at h2; obtain ⟨a,xs,rfl,hq,_⟩:=h2; cases r2
        obtain ⟨_,_,p,_⟩:=I.list hq
        exact EqAt.none_list p.isList hu'
    | bl b1 =>
      simp only [Rep] at h1
      subst h1
      cases r1
      cases u with
      | non=>simp only [Rep] at h2; subst h2; cases r2; exact EqAt.bool_none _
      | bl b=>simp only [Rep] at h2; subst h2; cases r2; exact EqAt.bool_bool _ _
      | int b=>simp only [Rep] at h2; subst h2; obtain ⟨t,rfl⟩:=r2; exact EqAt.bool_int _ _ _
      | str b=>simp only [Rep] at h2; subst h2; obtain ⟨t,rfl⟩:=r2; exact EqAt.bool_str _ _ _
      | tup l =>
        simp only [Rep] at h2; obtain ⟨a,xs,rfl,hq,_⟩:=h2; cases r2
        obtain ⟨_,_,p,_⟩:=I.tuple hq
        exact EqAt.bool_tuple _ (show s.heap.IsTuple a _ from p) hu'
      | lst l =>
        simp only [Rep] at h2; obtain ⟨a,xs,rfl,hq,_⟩:=h2; cases r2
        obtain ⟨_,_,p,_⟩:=I.list hq
        exact EqAt.bool_list _ p.isList hu'
    | int b1 =>
      simp only [Rep] at h1
      subst h1
      obtain ⟨t1,rfl⟩:=r1
      cases u with
      | non=>simp only [Rep] at h2; subst h2; cases r2; exact EqAt.int_none _ _
      | bl b=>simp only [Rep] at h2; subst h2; cases r2; exact EqAt.int_bool _ _ _
      | int b=>simp only [Rep] at h2; subst h2; obtain ⟨t,rfl⟩:=r2; exact EqAt.int_int _ _ _ _
      | str b=>simp only [Rep] at h2; subst h2; obtain ⟨t,rfl⟩:=r2; exact EqAt.int_str _ _ _ _
      | tup l =>
        simp only [Rep] at h2; obtain ⟨a,xs,rfl,hq,_⟩:=h2; cases r2
        obtain ⟨_,_,p,_⟩:=I.tuple hq
        exact EqAt.int_tuple _ _ (show s.heap.IsTuple a _ from p) hu'
      | lst l =>
        simp only [Rep] at h2; obtain ⟨a,xs,rfl,hq,_⟩:=h2; cases r2
        obtain ⟨_,_,p,_⟩:=I.list hq
        exact EqAt.int_list _ _ p.isList hu'
    | str b1 =>
      simp only [Rep] at h1
      subst h1
      obtain ⟨t1,rfl⟩:=r1
      cases u with
      | non=>simp only [Rep] at h2; subst h2; cases r2; exact EqAt.str_none _ _
      | bl b=>simp only [Rep] at h2; subst h2; cases r2; exact EqAt.str_bool _ _ _
      | int b=>simp only [Rep] at h2; subst h2; obtain ⟨t,rfl⟩:=r2; exact EqAt.str_int _ _ _ _
      | str b=>simp only [Rep] at h2; subst h2; obtain ⟨t,rfl⟩:=r2; exact EqAt.str_str _ _ _ _
      | tup l =>
        simp only [Rep] at h2; obtain ⟨a,xs,rfl,hq,_⟩:=h2; cases r2
        obtain ⟨_,_,p,_⟩:=I.tuple hq
        exact EqAt.str_tuple _ _ (show s.heap.IsTuple a _ from p) hu'
      | lst l =>
        simp only [Rep] at h2; obtain ⟨a,xs,rfl,hq,_⟩:=h2; cases r2
        obtain ⟨_,_,p,_⟩:=I.list hq
        exact EqAt.str_list _ _ p.isList hu'
  | succ n ih =>
    intro t u x y v w A hd h1 h2 r1 r2 hu
    have hu':A.units < cLine:=by omega
    by_cases h0:deep t≤n
    · exact ih h0 h1 h2 r1 r2 (by omega)
    have item:∀ {l m:List T} {xs ys:List V} {its its2:List Value},deeps l≤n→Reps X.K H l xs→Reps X.K H m ys→Vals xs its→Vals ys its2→∀ j (h1:j < its.toArray.size) (h2:j < its2.toArray.size),
        EqAt A.in1 s its.toArray[j] its2.toArray[j] (eqT (l.getD j .non) (m.getD j .non)):=fun {l m xs ys its its2} hd r1 r2 v1 v2 j hj1 hj2=>by
      have l1:=r1.len
      have l2:=r2.len
      have l3:=v1.length
      have l4:=v2.length
      rw [List.size_toArray] at hj1 hj2
      have e1:l[j]? = some (l.getD j .non):=by rw [List.getD,List.getElem?_eq_getElem (show j < l.length by omega)]; rfl
      have e2:m[j]? = some (m.getD j .non):=by rw [List.getD,List.getElem?_eq_getElem (show j < m.length by omega)]; rfl
      obtain ⟨x1,ex1,p1⟩:=r1.get e1
      obtain ⟨x2,ex2,p2⟩:=r2.get e2
      obtain ⟨u1,eu1,q1⟩:=v1.get ex1
      obtain ⟨u2,eu2,q2⟩:=v2.get ex2
      have z1:its.toArray[j]'(by simpa using hj1) = u1:=by
        rw [List.getElem?_eq_getElem hj1] at eu1
        simpa using eu1
      have z2:its2.toArray[j]'(by simpa using hj2) = u2:=by
        rw [List.getElem?_eq_getElem hj2] at eu2
        simpa using eu2
      rw [z1,z2]
      exact ih (Nat.le_trans (deeps_get e1) hd) p1 p2 q1 q2 (by show A.units+1+n < cLine; omega)
    cases t with
    | non=>exact absurd (Nat.zero_le _) h0
    | bl _=>exact absurd (Nat.zero_le _) h0
    | int _=>exact absurd (Nat.zero_le _) h0
    | str _=>exact absurd (Nat.zero_le _) h0
    | tup l =>
      have hdl:deeps l≤n:=by simpa [deep] using hd
      have h1':=h1
      simp only [Rep] at h1'
      obtain ⟨a,xs,rfl,hq,hr⟩:=h1'
      cases r1
      obtain ⟨its,rv,p,hz⟩:=I.tuple hq
      have pt:s.heap.IsTuple a its.toArray:=p
      cases u with
      | non=>simp only [Rep] at h2; subst h2; cases r2; exact EqAt.tuple_none pt hu'
      | bl b=>simp only [Rep] at h2; subst h2; cases r2; exact EqAt.tuple_bool _ pt hu'
      | int b=>simp only [Rep] at h2; subst h2; obtain ⟨t,rfl⟩:=r2; exact EqAt.tuple_int _ _ pt hu'
      | str b=>simp only [Rep] at h2; subst h2; obtain ⟨t,rfl⟩:=r2; exact EqAt.tuple_str _ _ pt hu'
      | lst m =>
        simp only [Rep] at h2; obtain ⟨b,ys,rfl,hq2,_⟩:=h2; cases r2
        obtain ⟨_,_,p2,_⟩:=I.list hq2
        exact EqAt.tuple_list pt p2.isList hu'
      | tup m =>
        have h2':=h2
        simp only [Rep] at h2'
        obtain ⟨b,ys,rfl,hq2,hr2⟩:=h2'
        cases r2
        by_cases hab:a = b
        · subst hab
          rw [Rep.uniq I h2 h1,eqT_refl]
          exact EqAt.same _
        · obtain ⟨its2,rv2,p2,hz2⟩:=I.tuple hq2
          have z:=RcAt.tuples pt (show s.heap.IsTuple b its2.toArray from p2) hu' (item hdl hr hr2 rv rv2)
          refine EqAt.of_refs hab ?_
          have l1:=hr.len
          have l2:=hr2.len
          have l3:=rv.length
          have l4:=rv2.length
          have e:((List.range (min its.toArray.size its2.toArray.size)).all (fun j=>eqT (l.getD j .non) (m.getD j .non)) && its.toArray.size == its2.toArray.size) = eqT (.tup l) (.tup m):=by
            show _ = eqTs l m
            rw [List.size_toArray,List.size_toArray,← l3,← l4,← l1,← l2]
            by_cases hl:l.length = m.length
            · rw [eqTs_all hl,hl]; simp
            · rw [eqTs_len hl,beq_eq_false_iff_ne.mpr hl,Bool.and_false]
          rw [e] at z
          exact z
    | lst l =>
      have hdl:deeps l≤n:=by simpa [deep] using hd
      have h1':=h1
      simp only [Rep] at h1'
      obtain ⟨a,xs,rfl,hq,hr⟩:=h1'
      cases r1
      obtain ⟨its,rv,p,hz⟩:=I.list hq
      have pt:s.heap.IsList a its.toArray:=p.isList
      cases u with
      | non=>simp only [Rep] at h2; subst h2; cases r2; exact EqAt.list_none pt hu'
      | bl b=>simp only [Rep] at h2; subst h2; cases r2; exact EqAt.list_bool _ pt hu'
      | int b=>simp only [Rep] at h2; subst h2; obtain ⟨t,rfl⟩:=r2; exact EqAt.list_int _ _ pt hu'
      | str b=>simp only [Rep] at h2; subst h2; obtain ⟨t,rfl⟩:=r2; exact EqAt.list_str _ _ pt hu'
      | tup m =>
        simp only [Rep] at h2; obtain ⟨b,ys,rfl,hq2,_⟩:=h2; cases r2
        obtain ⟨_,_,p2,_⟩:=I.tuple hq2
        exact EqAt.list_tuple pt (show s.heap.IsTuple b _ from p2) hu'
      | lst m =>
        have h2':=h2
        simp only [Rep] at h2'
        obtain ⟨b,ys,rfl,hq2,hr2⟩:=h2'
        cases r2
        by_cases hab:a = b
        · subst hab
          rw [Rep.uniq I h2 h1,eqT_refl]
          exact EqAt.same _
        · obtain ⟨its2,rv2,p2,hz2⟩:=I.list hq2
          have l1:=hr.len
          have l2:=hr2.len
          have l3:=rv.length
          have l4:=rv2.length
          refine EqAt.of_refs hab ?_
          by_cases hl:l.length = m.length
          · have z:=RcAt.lists pt p2.isList (by rw [List.size_toArray,List.size_toArray]; omega) hu' (item hdl hr hr2 rv rv2)
            have e:(List.range its.toArray.size).all (fun j=>eqT (l.getD j .non) (m.getD j .non)) = eqT (.lst l) (.lst m):=by
              show _ = eqTs l m
              rw [List.size_toArray,← l3,← l1,eqTs_all hl]
            rw [e] at z
            exact z
          · have e:eqT (.lst l) (.lst m) = false:=eqTs_len hl
            rw [e]
            exact RcAt.lists_lengths pt p2.isList (by rw [List.size_toArray,List.size_toArray]; simp only [bne_iff_ne]; omega) hu'
end
section
variable {X:Cx} {pins:List (Addr×Obj)} {σ:St} {H:Hp} {s:Shared}
open PySem.SeqAt in
theorem eqAt_items (I:Inv X pins σ H s) {n:Nat} {A:Around} (hu:A.units+n < cLine) {l m:List T} {xs ys:List V} {its its2:List Value} (hd:deeps l≤n) (r1:Reps X.K H l xs) (r2:Reps X.K H m ys) (v1:Vals xs its) (v2:Vals ys its2) (j:Nat)
    (hj1:j < its.toArray.size) (hj2:j < its2.toArray.size):EqAt A s its.toArray[j] its2.toArray[j] (eqT (l.getD j .non) (m.getD j .non)):=by
  have l1:=r1.len
  have l2:=r2.len
  have l3:=v1.length
  have l4:=v2.length
  rw [List.size_toArray] at hj1 hj2
  have e1:l[j]? = some (l.getD j .non):=by rw [List.getD,List.getElem?_eq_getElem (show j < l.length by omega)]; rfl
  have e2:m[j]? = some (m.getD j .non):=by rw [List.getD,List.getElem?_eq_getElem (show j < m.length by omega)]; rfl
  obtain ⟨x1,ex1,p1⟩:=r1.get e1
  obtain ⟨x2,ex2,p2⟩:=r2.get e2
  obtain ⟨u1,eu1,q1⟩:=v1.get ex1
  obtain ⟨u2,eu2,q2⟩:=v2.get ex2
  have z1:its.toArray[j]'(by simpa using hj1) = u1:=by
    rw [List.getElem?_eq_getElem hj1] at eu1
    simpa using eu1
  have z2:its2.toArray[j]'(by simpa using hj2) = u2:=by
    rw [List.getElem?_eq_getElem hj2] at eu2
    simpa using eu2
  rw [z1,z2]
  exact eqAt_T I n (Nat.le_trans (deeps_get e1) hd) p1 p2 q1 q2 hu
open PySem.SeqAt in
theorem rcAt_lists (I:Inv X pins σ H s) {n:Nat} {A:Around} (hu:A.units+n+1 < cLine) {l m:List T} {a b:Addr} (hd:deeps l≤n) (h1:Rep X.K H (.lst l) (.ref a)) (h2:Rep X.K H (.lst m) (.ref b)):RcAt A s (.ref a) (.ref b) (eqTs l m):=by
  simp only [Rep] at h1 h2
  obtain ⟨_,xs,e1,hq,hr⟩:=h1
  cases e1
  obtain ⟨_,ys,e2,hq2,hr2⟩:=h2
  cases e2
  obtain ⟨its,rv,p,hz⟩:=I.list hq
  obtain ⟨its2,rv2,p2,hz2⟩:=I.list hq2
  have l1:=hr.len
  have l2:=hr2.len
  have l3:=rv.length
  have l4:=rv2.length
  by_cases hl:l.length = m.length
  · have z:=RcAt.lists (A:=A) p.isList p2.isList (by rw [List.size_toArray,List.size_toArray]; omega) (by omega) (eqAt_items I (A:=A.in1) (n:=n) (by show A.units+1+n < cLine; omega) hd hr hr2 rv rv2)
    have e:(List.range its.toArray.size).all (fun j=>eqT (l.getD j .non) (m.getD j .non)) = eqTs l m:=by rw [List.size_toArray,← l3,← l1,eqTs_all hl]
    rw [e] at z
    exact z
  · rw [eqTs_len hl]
    exact RcAt.lists_lengths p.isList p2.isList (by rw [List.size_toArray,List.size_toArray]; simp only [bne_iff_ne]; omega) (by omega)
open PySem.SeqAt in
end
section
variable {X:Cx}
theorem op_eqL (hu:X.A.units+30 < cLine):OpR X (compareOp .Eq) (fun x y H Q=>∃ l m,Rep X.K H (.lst l) x∧Rep X.K H (.lst m) y∧deeps l≤20∧Q (.bl (eqTs l m)) H):=by
  intro pins s σ H x y v u Q I rx ry h
  obtain ⟨l,m,h1,h2,hd,q⟩:=h
  obtain ⟨a,_,rfl,_⟩:=(show ∃ a xs,x = .ref a∧_ from by simpa only [Rep] using h1)
  obtain ⟨b,_,rfl,_⟩:=(show ∃ a xs,y = .ref a∧_ from by simpa only [Rep] using h2)
  cases rx
  cases ry
  exact rcAt_lists I (n:=20) (by omega) hd h1 h2 X.prog X.w X.xe _ ⟨.bl _,H,I,rfl,q⟩
end
theorem Reps.int {K:PySem.W.Frag} {H:Hp}:∀ ns:List Int,Reps K H (ns.map T.int) (ns.map V.int)
  | []=>by simp [Reps]
  | n::r=>by simp only [List.map_cons,Reps,Rep]; exact ⟨trivial,Reps.int r⟩
theorem deeps_int:∀ ns:List Int,deeps (ns.map T.int) = 0
  | []=>rfl
  | n::r=>by simp [deeps,deep,deeps_int r]
section
variable {X:Cx}
theorem ixL (K:PySem.W.Frag) (h:X.K = K:=by rfl):IxR X (rIxL K):=h▸ix_list
theorem ixT (K:PySem.W.Frag) (h:X.K = K:=by rfl):IxR X (rIxT K):=h▸ix_tup
theorem lenK (K:PySem.W.Frag) (h:X.K = K:=by rfl):CallR X (.builtin "len") (fun xs H Q=>∃ p ys,xs = [.ref p]∧(SqL K H p ys∨SqT K H p ys)∧Q (.int ys.length) H):=h▸call_len_seq
theorem inK (K:PySem.W.Frag) (h:X.K = K:=by rfl):OpR X (compareOp .In) (rIn K false):=h▸op_in_seq
theorem notInK (K:PySem.W.Frag) (h:X.K = K:=by rfl):OpR X (compareOp .NotIn) (rIn K true):=h▸op_notIn_seq
theorem isiK (K:PySem.W.Frag) (h:X.K = K:=by rfl):CallR X (.builtin "isinstance") (fun xs H Q=>∃ (x:V) (T:String) (t:Value) (b:Bool),xs = [x,.ty T]∧TyOf K H x t∧PySem.W.kitOne K t (.type T) = some b∧Q (.bl b) H):=h▸call_isi
end
end L2

namespace L2
open PySem
structure At (K:PySem.W.Frag) (mg:Str→Option Value) (x:Str) (st:Stmt) (ps:List Str) (f:Addr) (fd:FuncData):Prop where
  fn:Fun K x x st f fd
  bt:∀ (s:Shared) (us:List Value),us.length = ps.length→BindsTo s fd ⟨us,[]⟩ (ps.zip us)
  gl:mg x = some (.ref f)
theorem At.bd {K:PySem.W.Frag} {mg:Str→Option Value} {x:Str} {st:Stmt} {ps:List Str} {f:Addr} {fd:FuncData} (h:At K mg x st ps f fd):Binds K fd ps []:=fun s us _ hl=>by
  rw [List.append_nil] at hl ⊢
  exact h.bt s us hl
theorem At.kp {K:PySem.W.Frag} {mg:Str→Option Value} {x:Str} {st:Stmt} {ps:List Str} {f:Addr} {fd:FuncData} (h:At K mg x st ps f fd):PySem.W.keepIn K (.ref f) = true:=h.fn.kp
theorem at_mk {K:PySem.W.Frag} {h:Heap} {mg:Str→Option Value} {x:Str} {st:Stmt} {ps:List Str} {f:Addr} {od an:Option Addr} {sl:Array (Option Value)} {oc kV dc pm cd ct:Value} (X:K.In h) (G:h.Ns mainGlobals mg)
    (b:∀ (kV doc pm:Value) (an:Option Addr) (cdv ct:Value) (us:List Value),us.length = ps.length→bindArgs (PySem.W.fnOf x x (defArgs st) (defBody st) (defScope st) .none kV doc pm an cdv ct) ⟨us,[]⟩ = pure (ps.zip us))
    (a:PySem.W.nsIn K mainGlobals x = some (some (.ref f))) (l:K.lookup f = some ⟨oc,od,.func (PySem.W.fnOf x x (defArgs st) (defBody st) (defScope st) .none kV dc pm an cd ct),sl⟩) (c:PySem.W.codeIn K cd x = true) (k:PySem.W.keepIn K (.ref f) = true) :
    ∃ f fd,At K mg x st ps f fd :=
  ⟨f,_,fun_mk l c k,fun s us hl=>.of_eq (b kV dc pm an cd ct us hl),PySem.W.mg_of X G a⟩
end L2

namespace Ev
open PySem PySem.W PySem.Calls PyProof.Rows PySem.Spec PySem.Builtin PySem.Builtin.ObjectAttr PySem.Builtin.Getset_descriptor
def ExcAt (h:Heap) (x C:Addr):Prop:=∃ ox,h.get? x = some ox∧ox.cls = .ref C
section
variable {M:Model} {h:Heap} {prog:Program} {w:World} {A:Around} {E:Value→Shared→Prop} {s:Shared} {K:Frag} {x C:Addr}
theorem ExcAt.ty (e:ExcAt h x C):Looks M h (typeOf (.ref x)) (.ref C):=by
  obtain ⟨ox,a,c⟩:=e
  exact c▸(Looks.ld a).andThen .now
end
end Ev

namespace L2
open PySem PySem.Spec PyProof.Rows
section
variable {X:Cx} {pins:List (Addr×Obj)} {σ:St} {H:Hp} {s:Shared}
end
end L2

namespace L2
open PySem PySem.Spec PyProof.Rows
section
variable {X:Cx} {E:XK}
end
abbrev TF:=St→Hp→(Str→Hp→Prop)→Prop
def FP (X:Cx) (pins:List (Addr×Obj)) (σ:St) (Q:Str→Hp→Prop) (u:Value) (s':Shared):Prop:=∃ x t H',u = .str x t∧Inv X pins σ H' s'∧Q x H'
def PF (X:Cx) (e:Expr) (t:TF):Prop :=
  ∀ (pins:List (Addr×Obj)) (s:Shared) (σ:St) (H:Hp) (Q:Str→Hp→Prop),Inv X pins σ H s→t σ H Q→wpAny (model X.prog X.w) X.A (eval e X.env) (FP X pins σ Q) X.xe s
def PFs (X:Cx) (es:List Expr) (t:Str→TF):Prop :=
  ∀ (acc:Str) (pins:List (Addr×Obj)) (s:Shared) (σ:St) (H:Hp) (Q:Str→Hp→Prop),Inv X pins σ H s→t acc σ H Q→wpAny (model X.prog X.w) X.A (joinParts acc (evalEach es X.env)) (FP X pins σ Q) X.xe s
section
variable {X:Cx}
def fStr (x:Str):TF:=fun _ H Q=>Q x H
theorem pf_str {x j pos}:PF X (.Constant (.str x) j pos) (fStr x):=fun _ _ _ H _ I h=>Calls.Constant_str ⟨x,_,H,rfl,I.tok _,h⟩
def txtI (a:Int):Str:=Str.ofString (toString a)
def fInt (te:TE):TF:=fun σ H Q=>te σ H fun v H1=>∃ a:Int,v = .int a∧a.natAbs.log2 < 1920∧Q (txtI a) H1
theorem pf_int {e:Expr} {te:TE} {pos:Pos} (he:PE X e te):PF X (.FormattedValue e (-1) none pos) (fInt te):=by
  intro pins s σ H Q I h
  refine FormattedValue_plain (thn (he pins s σ H _ I h) fun u s1 ⟨v,H1,I1,r,a,ev,ha,q⟩=>?_)
  subst ev
  obtain ⟨t,rfl⟩:=r
  exact formatField_int_small ha ⟨_,_,H1,rfl,I1.tok _,q⟩
def fNil (acc:Str):TF:=fun _ H Q=>acc.length≤sizeLine∧Q acc H
def fCons (t:TF) (r:Str→TF) (acc:Str):TF:=fun σ H Q=>t σ H fun y H1=>(acc++y).length≤sizeLine∧r (acc++y) σ H1 Q
theorem pfs_nil:PFs X [] fNil:=fun acc pins s σ H Q I h=>joinParts_nil ⟨acc,_,H,rfl,I.tok _,h.2⟩ h.1
theorem pfs_cons {e:Expr} {es:List Expr} {t:TF} {r:Str→TF} (h1:PF X e t) (h2:PFs X es r):PFs X (e::es) (fCons t r):=by
  intro acc pins s σ H Q I h
  show wpAny _ _ (joinParts acc (eval e X.env::evalEach es X.env)) _ _ s
  refine joinParts_cons (thn (h1 pins s σ H _ I h) fun u s1 ⟨y,t,H1,eu,I1,hl,q⟩=>?_)
  subst eu
  exact ⟨hl,h2 (acc++y) pins s1 σ H1 Q I1 q⟩
def tFstr (t:Str→TF):TE:=fun σ H Q=>t Str.empty σ H fun x H1=>Q (.str x) H1
theorem pe_fstr {v₁ v₂:Expr} {rest:List Expr} {t:Str→TF} {pos:Pos} (h:PFs X (v₁::v₂::rest) t):PE X (.JoinedStr (v₁::v₂::rest) pos) (tFstr t):=by
  intro pins s σ H Q I hq
  exact JoinedStr_many (thn (h Str.empty pins s σ H _ I hq) fun u s1 ⟨x,t,H1,eu,I1,q⟩=>⟨.str x,H1,I1,⟨t,eu⟩,q⟩)
end
end L2

namespace L2
open PySem PySem.Spec PyProof.Rows
section
variable {P:Program} {w:World} {K:PySem.W.Frag} {mg:Str→Option Value} {base:Heap}
end
structure RoomH (k:Nat) (A:Around):Prop where
  dp:A.depth+3*k+5 < recursionLimit
  un:A.units+16*k+200 < cLine
theorem RoomH.mark {k:Nat} {A:Around} (r:RoomH k A) (e:Option Value):RoomH k (A.mark e):=⟨r.dp,r.un⟩
theorem RoomH.deeper {k:Nat} {A:Around} (r:RoomH (k+1) A) (env:Env):RoomH k (A.deeper env) :=
  ⟨by have:=r.dp; show A.depth+1+3*k+5 < _; omega,by have:=r.un; show A.units+3+16*k+200 < _; omega⟩
section
variable {P:Program} {w:World} {K:PySem.W.Frag} {mg:Str→Option Value} {base:Heap}
end
section
variable {X:Cx} {k:Nat} {f:Addr} {fd:FuncData} {ps:List Str} {sp:Sp} {x:Str} {p pos:Pos} {e:Expr} {es:List Expr} {t:TA}
end
end L2

namespace L2
open PySem PySem.Spec PyProof.Rows
abbrev Cx.alt (X:Cx) (A:Around) (c:Bool) (pn:List (Addr×Obj)) (xe:Value→Shared→Prop):Cx:={ X with A:=A,calm:=c,pn:=pn,xe:=xe }
abbrev Cx.hand (X:Cx) (pn:List (Addr×Obj)) (a:Addr):Cx:=X.alt (X.A.mark (some (.ref a))) false pn fun _ _=>False
section
variable {X:Cx} {pins pins':List (Addr×Obj)} {σ:St} {H H':Hp} {s:Shared} {A:Around} {c:Bool} {pn:List (Addr×Obj)} {xe:Value→Shared→Prop}
theorem Inv.alt (I:Inv X pins σ H s) (hf:A.frames = X.A.frames) (hd:c = true→A.handled = none) (hp:∀ p∈pn++pins',p∈X.pn++pins):Inv (X.alt A c pn xe) pins' σ H s :=
  ⟨⟨I.ok.mod,I.ok.kind,I.ok.glob,I.ok.blt,I.ok.above,I.ok.inj,I.ok.has,I.ok.cab,hd,hf.trans I.ok.frames,I.ok.stk,I.ok.exf,I.ok.bs,I.ok.bsz,I.ok.noex,I.ok.exfs,I.ok.funs,I.ok.frf⟩,I.os,I.bare,I.base,I.loc,I.cell,I.free,I.freeC,fun p h=>I.pin p (hp p h),I.hok,I.len⟩
end
section
variable {X:Cx}
end
end L2

namespace L2
open PySem PySem.Spec PyProof.Rows
def Ite (K:PySem.W.Frag) (a:Addr):It :=
  ⟨fun i H=>∃ xs x,SqL K H a xs∧xs[i]? = some x,fun i H x H'=>∃ p y,H p = none∧x = .ref p∧H' = upd H p (.tup [.int (i:Int),y])∧∀ xs,SqL K H a xs→xs[i]? = some y,fun i H=>∃ xs,SqL K H a xs∧xs.length≤i⟩
theorem turn_enum {P:Program} {w:World} {K:PySem.W.Frag} {elts:List Expr} {x1:Nat} {pos:Pos} (a it e:Addr) (hne:e≠it) :
    Turn P w K (.Tuple elts x1 pos) (Ite K a) [e,it] e (fun i h=>∃ old,IsEnum h e it (i:Int) old∧h.IsListIter it a i) where
  mem:=by simp
  obj:=fun i h ⟨old,st,li⟩ b hb=>by
    rcases List.mem_cons.mp hb with z | z
    · subst z
      exact ⟨_,st,fun v z=>by
        have z':Data.fields _ = Data.cell v:=z
        cases z'⟩
    · have z:=List.mem_singleton.mp z
      subst z
      obtain ⟨o,e,c,d⟩:=li
      exact ⟨o,e,fun v z=>by rw [d] at z; cases z⟩
  keep:=fun i h h' ⟨old,st,li⟩ k=>⟨old,k e (by simp) _ st,li.at fun o q=>k it (by simp) o q⟩
  item:=by
    intro X hP hw hK hc i pins s σ H E I hf ⟨old,st,li⟩ hg
    subst hP hw hK
    obtain ⟨xs,x,hq,hx⟩:=hg
    obtain ⟨its,rv,p,hz⟩:=I.list hq
    obtain ⟨u,hu,ru⟩:=rv.get hx
    obtain ⟨f0,f1,f2,f3,f4,f5⟩:=hf e (by simp)
    obtain ⟨g0,g1,g2,g3,g4,g5⟩:=hf it (by simp)
    refine wpAny_pyNext_enum_item st li p.isList (x:=u) (by simpa using hu) hne fun h1 out li1 tup sz kk=>⟨_,rfl,?_⟩
    refine wpAny_letOwnedTupleGo_enum (s:={ s with heap:=h1,toks:=s.toks+1 }) out fun h2 st2 sb=>?_
    have hp:H s.heap.objs.size = none:=I.hok.fresh (Nat.le_refl _)
    have hes:s.heap.objs.size≠e:=Nat.ne_of_gt (Heap.lt_size st)
    have his:s.heap.objs.size≠it:=by
      obtain ⟨o,q,_⟩:=li
      exact Nat.ne_of_gt (Heap.lt_size q)
    have k2:∀ b o,b≠e→b≠it→s.heap.get? b = some o→h2.get? b = some o:=fun b o h3 h4 q=>(sb.2 b h3).trans (kk b o h3 h4 q)
    have tup2:h2.get? s.heap.objs.size = some { cls:=.type "tuple",data:=.seq #[.int (i:Int) s.toks,u] }:=(sb.2 _ hes).trans tup
    have lt:∀ b o,s.heap.get? b = some o→b≠s.heap.objs.size:=fun b o q=>Nat.ne_of_lt (Heap.lt_size q)
    refine ⟨.ref s.heap.objs.size,upd H s.heap.objs.size (.tup [.int (i:Int),x]),?_,rfl,⟨_,x,hp,rfl,rfl,fun ys hy=>by rw [I.list_inj hy hq]; exact hx⟩,⟨u,by rw [show ((i+1:Nat):Int) = (i:Int)+1 by omega]; exact st2,li1.at fun o q=>(sb.2 it hne.symm).trans q⟩,fun b hb=>?_⟩
    · show Inv X pins σ (upd H s.heap.objs.size (.tup [.int (i:Int),x])) { s with heap:=h2,gens:=s.gens,drawn:=s.drawn,toks:=s.toks+1 }
      refine I.step (h':=h2) (g':=s.gens) (t':=s.toks+1) (d':=s.drawn) (ch:=[e,it]) (fun b hb=>?_) (fun b o _ _ hn q _=>k2 b o (fun z=>hn (by simp [z])) (fun z=>hn (by simp [z])) q) (fun b o _ _ hn q _=>⟨o.slots,k2 b o (fun z=>hn (by simp [z])) (fun z=>hn (by simp [z])) q⟩)
        (fun b o _ q n=>by rw [upd_ne (lt b o q)]; exact n) (fun b o hn q=>⟨o,k2 b o (fun z=>hn (by simp [z])) (fun z=>hn (by simp [z])) q⟩) (fun b ys q=>by rw [upd_ne (ne_of_none q hp)]; exact q) (fun b o v q=>by rw [upd_ne (ne_of_none q hp)]; exact q)
        (fun b ps q=>⟨#[],by rw [upd_ne (ne_of_none q hp),q]; simp⟩) (fun m hm=>?_) (fun b v q=>?_) I.bare
      · rcases List.mem_cons.mp hb with z | z
        · subst z; exact ⟨f3,f1,f4,f5⟩
        · have z:=List.mem_singleton.mp z
          subst z; exact ⟨g3,g1,g4,g5⟩
      · obtain ⟨o,es,ep,q,r⟩:=hm
        exact ⟨o,es,ep,k2 _ o f1.symm g1.symm q,r⟩
      · by_cases hb:b = s.heap.objs.size
        · subst hb
          rw [upd_same] at q
          cases q
          exact ⟨(by show 2≤sizeLine; decide),[.int (i:Int) s.toks,u],.cons ⟨_,rfl⟩ (.cons ru .nil),⟨_,tup2,rfl,_,rfl⟩⟩
        · rw [upd_ne hb] at q
          refine (I.hok b v q).stay (fun c o hc z=>k2 c o ?_ ?_ z) (fun c z=>by rw [upd_ne (ne_of_none z hp)]; exact z) fun c ys z=>by rw [upd_ne (ne_of_none z hp)]; exact z
          · rintro rfl
            rcases hc with r | r
            · rw [r,q] at f0; cases f0
            · rw [r] at f0; cases f0
          · rintro rfl
            rcases hc with r | r
            · rw [r,q] at g0; cases g0
            · rw [r] at g0; cases g0
    · rcases List.mem_cons.mp hb with z | z
      · subst z; rw [upd_ne hes.symm]; exact f0
      · have z:=List.mem_singleton.mp z
        subst z; rw [upd_ne his.symm]; exact g0
  done:=by
    intro X hP hw hK hc i pins s σ H E I hf ⟨old,st,li⟩ hg
    subst hP hw hK
    obtain ⟨xs,hq,hx⟩:=hg
    obtain ⟨its,rv,p,hz⟩:=I.list hq
    obtain ⟨f0,f1,f2,f3,f4,f5⟩:=hf it (by simp)
    have hl:=rv.length
    exact wpAny_pyNext_enum_end (I.ok.hd hc) st li p.isList (by simp; omega) fun h' eb=>⟨rfl,I.turned (t':=s.toks) (fun b o hb e=>eb b o hb e) f0 f1 f3 f4 f5⟩
  self:=fun _ _ _ _ _ ⟨_,st,_⟩ h=>wpAny_pyIter_enum st h
def iEnum (K:PySem.W.Frag) (ta:TA):TI:=fun σ H R=>ta σ H fun vs H1=>∃ a,vs = [.ref a]∧(∃ xs,SqL K H1 a xs)∧R (Ite K a) H1
theorem pi_enum {X:Cx} {e:Expr} {ta:TA} {p pos tpos:Pos} {elts:List Expr} {x1:Nat} (hg:Gl X "enumerate") (hm:X.mg "enumerate" = none) (ha:PA X [e] ta) (hs:starEach [e] X.env = [(false,eval e X.env)]:=by rfl) :
    PI X (.Tuple elts x1 tpos) (.Call (.Name "enumerate" p) [e] [] pos) (iEnum X.K ta):=by
  intro pins s σ H R I h
  refine Call_ (ld_blt I hg hm boot_enumerate (PyProof.Rows.callWith_type1 (thn (ha pos pins s σ H _ I h) fun us s1 ⟨vs,H1,I1,r1,q1⟩=>?_) hs rfl))
  obtain ⟨a,e1,⟨xs,hq⟩,q⟩:=q1
  subst e1
  cases r1 with
  | cons r rr =>
    cases rr
    cases r
    obtain ⟨its,rv,pl,hz⟩:=I1.list hq
    refine call_enumerate_list pl.isList fun h' st li sz kk=>?_
    have I2:Inv X pins σ H1 { s1 with heap:=h' }:=I1.kept (t':=s1.toks) kk
    refine wpAny_pyIter_enum (s:={ s1 with heap:=h' }) st ?_
    refine ⟨s1.heap.objs.size+1,[s1.heap.objs.size+1,s1.heap.objs.size],_,_,H1,rfl,I2,turn_enum a s1.heap.objs.size (s1.heap.objs.size+1) (Nat.succ_ne_self _),⟨_,st,li⟩,fun b hb=>?_,q⟩
    have hb':s1.heap.objs.size≤b:=by
      rcases List.mem_cons.mp hb with z | z
      · rw [z]; exact Nat.le_succ _
      · rw [List.mem_singleton.mp z]; exact Nat.le_refl _
    exact I1.fpOk hb' (I1.hok.fresh hb')
theorem for_enum {K:PySem.W.Frag} {a:Addr} {xs:List V} {g:TG} {tb:TS} {D:Ends} {σ:St} {H:Hp} (Pv:Nat→St→Hp→Prop) (h0:Pv 0 σ H) (hl:∀ i σ H,i≤xs.length→Pv i σ H→SqL K H a xs)
    (hs:∀ i x σ H p,xs[i]? = some x→Pv i σ H→H p = none→g (.ref p) σ (upd H p (.tup [.int (i:Int),x])) fun σ2 H2=>tb { D with nx:=Pv (i+1),ct:=Pv (i+1),bk:=D.nx } σ2 H2) (hd:∀ σ H,Pv xs.length σ H→D.nx σ H) :
    ∃ W:Nat→Nat→St→Hp→Prop,(∃ m,W 0 m σ H)∧∀ i m σ H,W i m σ H →
      ((Ite K a).stop i H∧D.nx σ H)∨((Ite K a).go i H∧∃ N:St→Hp→Prop,(∀ σ' H',N σ' H'→∃ m',m' < m∧W (i+1) m' σ' H')∧∀ x H',(Ite K a).yld i H x H'→g x σ H' fun σ2 H2=>tb { D with nx:=N,ct:=N,bk:=D.nx } σ2 H2):=by
  refine ⟨fun i m σ H=>m = xs.length - i∧i≤xs.length∧Pv i σ H,⟨xs.length,by simp,Nat.zero_le _,h0⟩,?_⟩
  rintro i m σ H ⟨rfl,hi,p⟩
  have q:=hl i σ H hi p
  by_cases hlt:i < xs.length
  · refine .inr ⟨⟨xs,xs[i],q,by simp [hlt]⟩,Pv (i+1),fun σ' H' p'=>⟨xs.length - (i+1),by omega,rfl,hlt,p'⟩,fun x H' y=>?_⟩
    obtain ⟨ad,z,hn,rfl,rfl,y⟩:=y
    exact hs i z σ H ad (y xs q) p hn
  · have e:i = xs.length:=by omega
    subst e
    exact .inl ⟨⟨xs,q,Nat.le_refl _⟩,hd σ H p⟩
end L2

namespace L2
open PySem PySem.Spec PyProof.Rows
section
variable {X:Cx} {pins:List (Addr×Obj)} {σ:St} {H:Hp} {s:Shared}
open PySem.SeqAt in
open PySem.SeqAt in
end
section
variable {X:Cx}
end
section
variable {prog:Program} {w:World} {A:Around} {E:Value→Shared→Prop} {s:Shared}
end
section
variable {X:Cx}
end
end L2

namespace Mi
def wf (n last:Int):List Int→Int
  | []=>-1
  | w::r=>if w < 0∨n≤w then 4 else if w≤last then 5 else wf n w r
def fault (n:Int):List Room→Int
  | []=>-1
  | r::t=>if r.2.2 = [] then 6 else if wf n (-1) r.2.2 = -1 then fault n t else wf n (-1) r.2.2
end Mi
namespace L2
open PySem
theorem ifeqT {a b:Int} {A B:Prop} (h:a = b) (x:A):if decide (V.int a = V.int b) = true then A else B:=by rw [h,decide_eq_true rfl]; exact iteT x
theorem ifeqF {a b:Int} {A B:Prop} (h:a≠b) (x:B):if decide (V.int a = V.int b) = true then A else B:=by rw [decide_eq_false (fun z=>h (by injection z))]; exact iteF x
theorem ifeq2 {a b:Int} {A B:Prop} (x:a = b→A) (y:a≠b→B):if decide (V.int a = V.int b) = true then A else B:=by
  by_cases h:a = b
  · exact ifeqT h (x h)
  · exact ifeqF h (y h)
theorem Same.tup {K:PySem.W.Frag} {H H':Hp} {a:Addr} {xs:List V} (e:Same H H') (h:SqT K H a xs):SqT K H' a xs:=by
  rcases h with (h | ⟨o,h⟩) | h
  · exact .inl (.inl (e _ _ h))
  · exact .inl (.inr ⟨o,e _ _ h⟩)
  · exact .inr h
section
variable {X:Cx}
end
end L2
namespace L2
open PySem
theorem RoomH.mono {j k:Nat} {A:PySem.Around} (r:RoomH k A) (h:j≤k):RoomH j A:=⟨by have:=r.dp; omega,by have:=r.un; omega⟩
theorem Reps.nil {K:PySem.W.Frag} {H:Hp}:Reps K H [] []:=by simp [Reps]
theorem drop_at {α:Type} {l:List α} {i:Nat} {x:α} (h:l[i]? = some x):l.drop i = x::l.drop (i+1):=by
  obtain ⟨hi,e⟩:=List.getElem?_eq_some_iff.mp h
  rw [List.drop_eq_getElem_cons hi,e]
theorem pair_back {F:Mi.Room→V→Prop}:∀ {l:List Mi.Room} {vs:List V},Paired F l vs→∀ {i:Nat} {v:V},vs[i]? = some v→∃ r,l[i]? = some r∧F r v
  | _,_,.nil,i,v,e=>by simp at e
  | _,_,.cons h t,0,v,e=>by simp at e; subst e; exact ⟨_,rfl,h⟩
  | _,_,.cons _ t,i+1,v,e=>by simpa using pair_back t (i:=i) (by simpa using e)
end L2
namespace Mi
theorem put_len (x:Int):∀ l:List Int,(put x l).length≤l.length+1
  | []=>by simp [put]
  | y::r=>by
    unfold put
    split
    · simp
    · split
      · simp
      · have:=put_len x r
        simp only [List.length_cons]
        exact Nat.lt_succ_of_le ‹_›
theorem sset_len:∀ l:List Int,(sset l).length≤l.length
  | []=>by simp [sset]
  | x::r=>by
    have h1:=put_len x (sset r)
    have h2:=sset_len r
    simp only [sset,List.length_cons]
    omega
theorem ways_len {c m:Int} (h1:0 < m) (h2:m≤80):(ways c m).length≤80:=by
  unfold ways
  split
  · have:=Int.emod_nonneg (c / 32) (show m≠0 by omega)
    rw [List.length_map,List.length_range]
    omega
  · have:=sset_len (([c / 32 % m,c / 2560 % m,c / 204800 % m]:List Int).take (1+c / 16 % 3).toNat)
    have h3:(([c / 32 % m,c / 2560 % m,c / 204800 % m]:List Int).take (1+c / 16 % 3).toNat).length≤3:=by simp; omega
    omega
end Mi
namespace L2
open PySem
def roomT (r:Mi.Room):T:=.tup [.int r.1,.int r.2.1,.tup (r.2.2.map T.int)]
theorem RoomAt.rep {K:PySem.W.Frag} {H:Hp} {r:Mi.Room} {v:V} (h:RoomAt H r v):Rep K H (roomT r) v:=by
  obtain ⟨p,q,rfl,h1,h2⟩:=h
  simp only [roomT,Rep]
  refine ⟨p,_,rfl,SqT.of h1,?_⟩
  simp only [Reps,Rep]
  exact ⟨trivial,trivial,⟨q,_,rfl,SqT.of h2,Reps.int _⟩,trivial⟩
theorem rooms_rep {K:PySem.W.Frag} {H:Hp}:∀ {hs:List Mi.Room} {vs:List V},Paired (RoomAt H) hs vs→Reps K H (hs.map roomT) vs
  | _,_,.nil=>by simp [Reps]
  | _,_,.cons h t=>by simp only [List.map_cons,Reps]; exact ⟨h.rep,rooms_rep t⟩
theorem deeps_rooms:∀ hs:List Mi.Room,deeps (hs.map roomT)≤20
  | []=>by simp [deeps]
  | r::t=>by
    have:=deeps_rooms t
    simp only [List.map_cons,deeps,roomT,deep,deeps_int]
    omega
theorem Paired.set {F:Mi.Room→V→Prop} {r:Mi.Room} {v:V} (h:F r v):∀ {l:List Mi.Room} {vs:List V} (i:Nat),Paired F l vs→Paired F (l.set i r) (vs.set i v)
  | _,_,_,.nil=>.nil
  | _,_,0,.cons _ t=>.cons h t
  | _,_,i+1,.cons a t=>.cons a (Paired.set h i t)
end L2
namespace L2
open PySem
theorem HallAt.put {H:Hp} {l:Addr} {hs:List Mi.Room} {vs:List V} {r:Mi.Room} {v:V} {j:Nat} (e:H l = some (.lst vs)) (p:Paired (RoomAt H) hs vs) (h:RoomAt H r v):HallAt (upd H l (.lst (vs.set j v))) l (hs.set j r):=by
  have k:∀ b xs,H b = some (.tup xs)→(upd H l (.lst (vs.set j v))) b = some (.tup xs):=fun b xs q=>by rw [upd_ne (ne_of q e (by intro z; cases z))]; exact q
  exact ⟨_,upd_same,Paired.set (h.tups k) j (rooms_tups p k)⟩
theorem Scr.lst {K:PySem.W.Frag} {H:Hp} {a l:Addr} {ns:List Int} {xs ys:List V} (h:Scr K H a ns) (e:H l = some (.lst xs)):Scr K (upd H l (.lst ys)) a ns:=h.keep e samex_upd
end L2
namespace L2
open PySem PySem.W
end L2

namespace L2
open PySem
inductive Sy where
  | y0 (b:Bool) | mk (b:Bool) (x:Str) | nm (x:Str) | st (b:Bool) (s:Sy) | pr (b:Bool) (s t:Sy) | bn (b:Bool) (x:Str) (s:Sy)
namespace Sy
def k0:Bool→Str | true=>"yes" | false=>"no"
def k1:Bool→Str | true=>"mark" | false=>"unmark"
def k2:Bool→Str | true=>"some" | false=>"every"
def k3:Bool→Str | true=>"both" | false=>"either"
def k4:Bool→Str | true=>"least" | false=>"most"
def kind:Sy→Str
  | y0 b=>k0 b | mk b _=>k1 b | nm _=>"name" | st b _=>k2 b | pr b _ _=>k3 b | bn b _ _=>k4 b
def subs:Sy→List Sy
  | st _ s=>[s] | pr _ s t=>[s,t] | bn _ _ s=>[s] | _=>[]
def size:Sy→Nat
  | st _ s=>s.size+1 | pr _ s t=>s.size+t.size+1 | bn _ _ s=>s.size+1 | _=>1
def depth:Sy→Nat
  | st _ s=>s.depth+1 | pr _ s t=>max s.depth t.depth+1 | bn _ _ s=>s.depth+1 | _=>1
def names:List Str:=["X","Y","Z","U"]
def marks:List Str:=["p","q","r"]
def ok:List Str→Sy→Prop
  | _,y0 _=>True | _,mk _ x=>x∈marks | B,nm x=>x∈B | B,st _ s=>s.ok B | B,pr _ s t=>s.ok B∧t.ok B | B,bn _ x s=>x∉B∧x∈names∧s.ok (B++[x])
def t:Sy→T
  | y0 b=>.tup [.str (k0 b)] | mk b x=>.tup [.str (k1 b),.str x] | nm x=>.tup [.str "name",.str x] | st b s=>.tup [.str (k2 b),s.t] | pr b s u=>.tup [.str (k3 b),s.t,u.t] | bn b x s=>.tup [.str (k4 b),.str x,s.t]
theorem size_subs (s:Sy):s.size = (s.subs.map size).sum+1:=by cases s<;>simp [size,subs]
theorem depth_subs {s u:Sy} (h:u∈s.subs):u.depth+1≤s.depth:=by
  cases s<;>simp [subs] at h
  · subst h; simp [depth]
  · rcases h with rfl | rfl<;>simp [depth]<;>omega
  · subst h; simp [depth]
theorem depth_pos (s:Sy):1≤s.depth:=by cases s<;>simp [depth]
theorem size_pos (s:Sy):1≤s.size:=by cases s<;>simp [size]
end Sy
def SyAt (H:Hp):Sy→V→Prop
  | .y0 b,v=>∃ a,v = .ref a∧H a = some (.tup [.str (Sy.k0 b)])
  | .mk b x,v=>∃ a,v = .ref a∧H a = some (.tup [.str (Sy.k1 b),.str x])
  | .nm x,v=>∃ a,v = .ref a∧H a = some (.tup [.str "name",.str x])
  | .st b s,v=>∃ a u,v = .ref a∧H a = some (.tup [.str (Sy.k2 b),u])∧SyAt H s u
  | .pr b s t,v=>∃ a u u',v = .ref a∧H a = some (.tup [.str (Sy.k3 b),u,u'])∧SyAt H s u∧SyAt H t u'
  | .bn b x s,v=>∃ a u,v = .ref a∧H a = some (.tup [.str (Sy.k4 b),.str x,u])∧SyAt H s u
theorem SyAt.imp {H H':Hp} (k:∀ a xs,H a = some (.tup xs)→H' a = some (.tup xs)):∀ {s:Sy} {v:V},SyAt H s v→SyAt H' s v
  | .y0 _,_,⟨a,e,h⟩=>⟨a,e,k _ _ h⟩
  | .mk _ _,_,⟨a,e,h⟩=>⟨a,e,k _ _ h⟩
  | .nm _,_,⟨a,e,h⟩=>⟨a,e,k _ _ h⟩
  | .st _ _,_,⟨a,u,e,h,r⟩=>⟨a,u,e,k _ _ h,SyAt.imp k r⟩
  | .pr _ _ _,_,⟨a,u,u',e,h,r,r'⟩=>⟨a,u,u',e,k _ _ h,SyAt.imp k r,SyAt.imp k r'⟩
  | .bn _ _ _,_,⟨a,u,e,h,r⟩=>⟨a,u,e,k _ _ h,SyAt.imp k r⟩
theorem SyAt.same {H H':Hp} {s:Sy} {v:V} (h:SyAt H s v) (k:Same H H'):SyAt H' s v:=h.imp fun a xs e=>k a _ e
theorem SyAt.keep {H H':Hp} {s:Sy} {v:V} {p:Addr} {xs:List V} (h:SyAt H s v) (hp:H p = some (.lst xs)) (k:SameX p H H'):SyAt H' s v:=h.imp fun a ys e=>k a _ e fun z=>by rw [z,hp] at e; cases e
theorem SyAt.rep {K:PySem.W.Frag} {H:Hp}:∀ {s:Sy} {v:V},SyAt H s v→Rep K H s.t v
  | .y0 _,_,⟨a,e,h⟩=>by simp only [Sy.t,Rep,Reps]; exact ⟨a,_,e,SqT.of h,rfl,trivial⟩
  | .mk _ _,_,⟨a,e,h⟩=>by simp only [Sy.t,Rep,Reps]; exact ⟨a,_,e,SqT.of h,rfl,rfl,trivial⟩
  | .nm _,_,⟨a,e,h⟩=>by simp only [Sy.t,Rep,Reps]; exact ⟨a,_,e,SqT.of h,rfl,rfl,trivial⟩
  | .st _ _,_,⟨a,u,e,h,r⟩=>by simp only [Sy.t,Rep,Reps]; exact ⟨a,_,e,SqT.of h,rfl,r.rep,trivial⟩
  | .pr _ _ _,_,⟨a,u,u',e,h,r,r'⟩=>by simp only [Sy.t,Rep,Reps]; exact ⟨a,_,e,SqT.of h,rfl,r.rep,r'.rep,trivial⟩
  | .bn _ _ _,_,⟨a,u,e,h,r⟩=>by simp only [Sy.t,Rep,Reps]; exact ⟨a,_,e,SqT.of h,rfl,rfl,r.rep,trivial⟩
inductive Sarg where
  | tx (x:Str) | sy (s:Sy)
def SargAt (H:Hp):Sarg→V→Prop
  | .tx x,v=>v = .str x
  | .sy s,v=>SyAt H s v
namespace Sy
def args:Sy→List Sarg
  | y0 _=>[] | mk _ x=>[.tx x] | nm x=>[.tx x] | st _ s=>[.sy s] | pr _ s t=>[.sy s,.sy t] | bn _ x s=>[.tx x,.sy s]
end Sy
def Sarg.subs:List Sarg→List Sy
  | []=>[] | .tx _::r=>Sarg.subs r | .sy s::r=>s::Sarg.subs r
theorem Sarg.subs_args (s:Sy):Sarg.subs s.args = s.subs:=by cases s<;>rfl
theorem Sarg.subs_app:∀ (l m:List Sarg),Sarg.subs (l++m) = Sarg.subs l++Sarg.subs m
  | [],_=>rfl
  | .tx _::r,m=>by rw [List.cons_append,Sarg.subs,Sarg.subs,Sarg.subs_app r m]
  | .sy _::r,m=>by rw [List.cons_append,Sarg.subs,Sarg.subs,Sarg.subs_app r m,List.cons_append]
theorem SargAt.same {H H':Hp} {s:Sarg} {v:V} (h:SargAt H s v) (k:Same H H'):SargAt H' s v:=by
  cases s with
  | tx x=>exact h
  | sy s=>exact SyAt.same h k
theorem SyAt.args {H:Hp} {s:Sy} {v:V} (h:SyAt H s v):∃ a xs,v = .ref a∧H a = some (.tup (.str s.kind::xs))∧Paired (SargAt H) s.args xs:=by
  cases s with
  | y0 b=>obtain ⟨a,e,h⟩:=h; exact ⟨a,[],e,h,.nil⟩
  | mk b x=>obtain ⟨a,e,h⟩:=h; exact ⟨a,_,e,h,.cons rfl .nil⟩
  | nm x=>obtain ⟨a,e,h⟩:=h; exact ⟨a,_,e,h,.cons rfl .nil⟩
  | st b s=>obtain ⟨a,u,e,h,r⟩:=h; exact ⟨a,_,e,h,.cons r .nil⟩
  | pr b s t=>obtain ⟨a,u,u',e,h,r,r'⟩:=h; exact ⟨a,_,e,h,.cons r (.cons r' .nil)⟩
  | bn b x s=>obtain ⟨a,u,e,h,r⟩:=h; exact ⟨a,_,e,h,.cons rfl (.cons r .nil)⟩
theorem SyAt.tup {H:Hp} {s:Sy} {v:V} (h:SyAt H s v):∃ a xs,v = .ref a∧H a = some (.tup xs):=by
  obtain ⟨a,xs,e,h,_⟩:=h.args
  exact ⟨a,_,e,h⟩
theorem pair_backG {α:Type} {F:α→V→Prop}:∀ {l:List α} {vs:List V},Paired F l vs→∀ {i:Nat} {v:V},vs[i]? = some v→∃ r,l[i]? = some r∧F r v
  | _,_,.nil,i,v,e=>by simp at e
  | _,_,.cons h t,0,v,e=>by simp at e; subst e; exact ⟨_,rfl,h⟩
  | _,_,.cons h t,i+1,v,e=>pair_backG t (i:=i) (by simpa using e)
theorem pair_snoc {α:Type} {F:α→V→Prop} {a:α} {v:V} (h:F a v):∀ {l:List α} {vs:List V},Paired F l vs→Paired F (l++[a]) (vs++[v])
  | _,_,.nil=>.cons h .nil
  | _,_,.cons g t=>.cons g (pair_snoc h t)
theorem ifS {a b:Str} {A B:Prop} (x:a = b→A) (y:a≠b→B):if decide (V.str a = V.str b) = true then A else B:=by
  by_cases h:a = b
  · rw [decide_eq_true (by rw [h])]; exact iteT (x h)
  · rw [decide_eq_false (fun z=>h (by injection z))]; exact iteF (y h)
theorem inS (x:Str):∀ B:List Str,inV (.str x) (B.map V.str) = decide (x∈B)
  | []=>by simp [inV]
  | y::B=>by
    have ih:=inS x B
    unfold inV at ih ⊢
    rw [List.map_cons,List.any_cons,ih]
    show (y == x || decide (x∈B)) = decide (x∈y::B)
    rw [Bool.eq_iff_iff]
    simp only [Bool.or_eq_true,beq_iff_eq,decide_eq_true_eq,List.mem_cons]
    constructor
    · rintro (h | h)
      · exact .inl h.symm
      · exact .inr h
    · rintro (h | h)
      · exact .inl h.symm
      · exact .inr h
theorem flatS:∀ B:List Str,(B.map V.str).all flatV = true
  | []=>rfl
  | y::B=>by rw [List.map_cons,List.all_cons,flatS B]; rfl
end L2

namespace L2
open PySem
theorem slice1 {k:V} {xs:List V}:cutV (k::xs) (some 1) none = xs:=by
  unfold cutV
  simp [HT.sIx]
theorem slice1n {k:V} {xs:List V}:¬ (HT.sIx (k::xs).length 0 (some 1) = 0∧HT.sIx (k::xs).length (k::xs).length none = (k::xs).length):=by
  simp [HT.sIx]
theorem args_le (s:Sy):s.args.length≤2:=by cases s<;>simp [Sy.args]
end L2
namespace L2
namespace Sy
theorem kind_name {s:Sy} (h:s.kind = "name"):∃ x,s = .nm x:=by
  cases s with
  | nm x=>exact ⟨x,rfl⟩
  | y0 b=>cases b<;>exact absurd h (by simp only [kind]; decide)
  | mk b x=>cases b<;>exact absurd h (by simp only [kind]; decide)
  | st b x=>cases b<;>exact absurd h (by simp only [kind]; decide)
  | pr b x y=>cases b<;>exact absurd h (by simp only [kind]; decide)
  | bn b x y=>cases b<;>exact absurd h (by simp only [kind]; decide)
theorem kind_bind {s:Sy} (h:s.kind∈(["least","most"]:List PySem.Str)):∃ b x u,s = .bn b x u:=by
  cases s with
  | nm x=>exact absurd h (by simp only [kind]; decide)
  | y0 b=>cases b<;>exact absurd h (by simp only [kind]; decide)
  | mk b x=>cases b<;>exact absurd h (by simp only [kind]; decide)
  | st b x=>cases b<;>exact absurd h (by simp only [kind]; decide)
  | pr b x y=>cases b<;>exact absurd h (by simp only [kind]; decide)
  | bn b x y=>exact ⟨b,x,y,rfl⟩
theorem bind_kind (b:Bool):k4 b∈(["least","most"]:List PySem.Str):=by cases b<;>decide
end Sy
theorem at0 {x:V} {xs:List V}:atI (x::xs) 0 = some x:=atI_nat (j:=0) rfl
theorem at1 {x y:V} {xs:List V}:atI (x::y::xs) 1 = some y:=atI_nat (j:=1) rfl
theorem at2 {x y z:V} {xs:List V}:atI (x::y::z::xs) 2 = some z:=atI_nat (j:=2) rfl
end L2
namespace L2
open PySem
theorem Reps.str {K:PySem.W.Frag} {H:Hp}:∀ ns:List Str,Reps K H (ns.map T.str) (ns.map V.str)
  | []=>by simp [Reps]
  | n::r=>by simp only [List.map_cons,Reps,Rep]; exact ⟨trivial,Reps.str r⟩
theorem pick0 (n:Int) {x y:V}:atI [x,y] (n % 2) = some (if n % 2 = 0 then x else y):=by
  rcases Int.emod_two_eq n with e | e<;>rw [e]<;>rfl
theorem pickK2 (n:Int):atI [V.str "some",V.str "every"] (n % 2) = some (V.str (Sy.k2 (decide (n % 2 = 0)))):=by
  rcases Int.emod_two_eq n with e | e<;>rw [e]<;>rfl
theorem pickK3 (n:Int):atI [V.str "both",V.str "either"] (n % 2) = some (V.str (Sy.k3 (decide (n % 2 = 0)))):=by
  rcases Int.emod_two_eq n with e | e<;>rw [e]<;>rfl
theorem pickK4 (n:Int):atI [V.str "least",V.str "most"] (n % 2) = some (V.str (Sy.k4 (decide (n % 2 = 0)))):=by
  rcases Int.emod_two_eq n with e | e<;>rw [e]<;>rfl
theorem pickK1 (n:Int):atI [V.str "mark",V.str "unmark"] (n % 2) = some (V.str (Sy.k1 (decide (n % 2 = 0)))):=by
  rcases Int.emod_two_eq n with e | e<;>rw [e]<;>rfl
theorem pickS {xs:List Str} {i:Int} (h0:0≤i) (h1:i < (xs.length:Int)):∃ x,x∈xs∧atI (xs.map V.str) i = some (V.str x):=by
  obtain ⟨j,rfl⟩:=Int.eq_ofNat_of_zero_le h0
  have hj:j < xs.length:=by omega
  exact ⟨xs[j],List.getElem_mem hj,atI_nat (by rw [List.getElem?_map,List.getElem?_eq_getElem hj]; rfl)⟩
theorem pickM (n:Int):∃ c,atI (Str.ofString "pqr").cps.toList (n % 3) = some c∧(⟨#[c]⟩:Str)∈Sy.marks:=by
  have h0:=Int.emod_nonneg n (show (3:Int)≠0 by decide)
  have h3:=Int.emod_lt_of_pos n (show (0:Int) < 3 by decide)
  rcases (show n % 3 = 0∨n % 3 = 1∨n % 3 = 2 by omega) with e | e | e<;>rw [e]
  · exact ⟨112,by decide +kernel,by decide +kernel⟩
  · exact ⟨113,by decide +kernel,by decide +kernel⟩
  · exact ⟨114,by decide +kernel,by decide +kernel⟩
end L2
namespace L2
open PySem
theorem keepS {H H':Hp} {b p:Addr} {B:List Str} {x y:Int} (h:H b = some (.lst (B.map V.str))) (hp:H p = some (.lst [.int x,.int y])) (k:SameX p H H'):H' b = some (.lst (B.map V.str)):=by
  refine k _ _ h fun z=>?_
  rw [z,hp] at h
  injection h with h
  injection h with h
  cases B with
  | nil=>cases h
  | cons u r=>injection h with h; cases h
theorem SameX.after {p:Addr} {H H1 H2:Hp} (a:SameX p H H1) (b:Same H1 H2):SameX p H H2:=fun c o h hc=>b c o (a c o h hc)
end L2
namespace L2
open PySem
end L2

namespace L2
open PySem
structure Wo (N:Nat) where
  ma:Fin N→Str
  ws:Fin N→List (Fin N)
abbrev Tr (N:Nat):=Fin N→Bool
abbrev En (N:Nat):=Str→Tr N
namespace Se
variable {N:Nat}
def inM (x m:Str):Bool:=!(Builtin.Str.occurrences m x 0 m.length 1).isEmpty
def put (e:En N) (x:Str) (t:Tr N):En N:=fun y=>if y = x then t else e y
def it (F:Tr N→Tr N):Nat→Tr N→Tr N
  | 0,t=>t
  | n+1,t=>F (it F n t)
def hold (W:Wo N):Sy→En N→Tr N
  | .y0 b,_=>fun _=>b
  | .mk b x,_=>fun i=>inM x (W.ma i) == b
  | .nm x,e=>e x
  | .st b s,e=>fun i=>if b = true then (W.ws i).any (hold W s e) else (W.ws i).all (hold W s e)
  | .pr b s t,e=>fun i=>if b = true then hold W s e i && hold W t e i else hold W s e i || hold W t e i
  | .bn b x s,e=>it (fun t=>hold W s (put e x t)) N (fun _=>!b)
def le (f g:Tr N):Prop:=∀ i,f i = true→g i = true
theorem it_mono {F G:Tr N→Tr N} (h:∀ t u,le t u→le (F t) (G u)) {t:Tr N}:∀ n,le (it F n t) (it G n t)
  | 0=>fun _ h=>h
  | n+1=>h _ _ (it_mono h n)
theorem put_le {e e':En N} {x:Str} {t u:Tr N} (h:∀ y,le (e y) (e' y)) (ht:le t u):∀ y,le (put e x t y) (put e' x u y):=fun y=>by
  unfold put
  split
  · exact ht
  · exact h y
theorem mono (W:Wo N):∀ (s:Sy) {e e':En N},(∀ x,le (e x) (e' x))→le (hold W s e) (hold W s e')
  | .y0 _,_,_,_=>fun _ h=>h
  | .mk _ _,_,_,_=>fun _ h=>h
  | .nm x,_,_,h=>h x
  | .st b s,e,e',h=>fun i hi=>by
    have ih:=mono W s h
    simp only [hold] at hi ⊢
    split at hi
    · rename_i hb
      rw [if_pos hb]
      obtain ⟨j,hj,z⟩:=List.any_eq_true.mp hi
      exact List.any_eq_true.mpr ⟨j,hj,ih j z⟩
    · rename_i hb
      rw [if_neg hb]
      exact List.all_eq_true.mpr fun j hj=>ih j (List.all_eq_true.mp hi j hj)
  | .pr b s t,e,e',h=>fun i hi=>by
    have i1:=mono W s h i
    have i2:=mono W t h i
    simp only [hold] at hi ⊢
    split at hi
    · rename_i hb
      rw [if_pos hb]
      rw [Bool.and_eq_true] at hi ⊢
      exact ⟨i1 hi.1,i2 hi.2⟩
    · rename_i hb
      rw [if_neg hb]
      rw [Bool.or_eq_true] at hi ⊢
      exact hi.imp i1 i2
  | .bn b x s,e,e',h=>it_mono (fun t u ht=>mono W s (put_le h ht)) N
def leB (b:Bool) (f g:Tr N):Prop:=∀ i,f i = b→g i = b
theorem leB_of {b:Bool} {F:Tr N→Tr N} (h:∀ t u,le t u→le (F t) (F u)) {t u:Tr N} (ht:leB b t u):leB b (F t) (F u):=by
  cases b with
  | true=>exact h t u ht
  | false =>
    have ht':le u t:=fun i z=>by
      cases e:t i with
      | true=>rfl
      | false=>rw [ht i e] at z; cases z
    intro i z
    have:=h u t ht' i
    cases e:F u i with
    | false=>rfl
    | true=>rw [this e] at z; cases z
theorem chain {b:Bool} {F:Tr N→Tr N} (h:∀ t u,le t u→le (F t) (F u)):∀ n,leB b (it F n fun _=>!b) (it F (n+1) fun _=>!b)
  | 0=>fun i z=>by
    have z':(!b) = b:=z
    cases b<;>cases z'
  | n+1=>leB_of h (chain h n)
def left (b:Bool) (f:Tr N):Nat:=(List.finRange N).countP fun i=>f i == !b
theorem countP_lt {α:Type} {p q:α→Bool}:∀ {l:List α},(∀ x,p x = true→q x = true)→(∃ x∈l,q x = true∧p x = false)→l.countP p < l.countP q
  | [],_,⟨x,hx,_⟩=>by cases hx
  | y::l,h,⟨x,hx,h1,h2⟩=>by
    rcases List.mem_cons.mp hx with e | hx
    · subst e
      rw [List.countP_cons_of_neg (by simp [h2]),List.countP_cons_of_pos h1]
      exact Nat.lt_succ_of_le (List.countP_mono_left fun x _=>h x)
    · have ih:=countP_lt (l:=l) h ⟨x,hx,h1,h2⟩
      rw [List.countP_cons,List.countP_cons]
      by_cases hp:p y = true
      · rw [if_pos hp,if_pos (h y hp)]; exact Nat.lt_succ_of_le ‹_›
      · rw [if_neg hp]; omega
theorem left_lt {b:Bool} {f g:Tr N} (h:leB b f g) (hne:g≠f):left b g < left b f:=by
  refine countP_lt (fun i z=>?_) ?_
  · have z':g i = !b:=by simpa using z
    have:f i≠b:=fun e=>by rw [h i e] at z'; cases b<;>cases z'
    cases e:f i<;>cases b<;>simp_all
  · have:∃ i,g i≠f i:=Classical.byContradiction fun n=>hne (funext fun i=>Classical.byContradiction fun z=>n ⟨i,z⟩)
    obtain ⟨i,hi⟩:=this
    refine ⟨i,List.mem_finRange i,?_,?_⟩
    · have:f i≠b:=fun e=>hi ((h i e).trans e.symm)
      cases e:f i<;>cases b<;>simp_all
    · have:f i≠b:=fun e=>hi ((h i e).trans e.symm)
      cases e:f i<;>cases e2:g i<;>cases b<;>simp_all
theorem left_le (b:Bool) (f:Tr N):left b f≤N:=by
  unfold left
  exact Nat.le_trans List.countP_le_length (by simp)
theorem it_stay {F:Tr N→Tr N} {t:Tr N} {n:Nat} (h:it F (n+1) t = it F n t):∀ m,it F (n+m) t = it F n t
  | 0=>rfl
  | m+1=>by
    show F (it F (n+m) t) = _
    rw [it_stay h m]
    exact h
theorem stable {b:Bool} {F:Tr N→Tr N} (h:∀ t u,le t u→le (F t) (F u)):it F (N+1) (fun _=>!b) = it F N fun _=>!b:=by
  have key:∀ n,it F (n+1) (fun _=>!b) = it F n (fun _=>!b)∨left b (it F (n+1) fun _=>!b)+(n+1)≤N:=by
    intro n
    induction n with
    | zero =>
      by_cases e:it F 1 (fun _=>!b) = it F 0 fun _=>!b
      · exact .inl e
      · have:=left_lt (chain h 0) e
        have:=left_le b (it F 0 fun _=>!b)
        exact .inr (by omega)
    | succ n ih =>
      by_cases e:it F (n+2) (fun _=>!b) = it F (n+1) fun _=>!b
      · exact .inl e
      · have l:=left_lt (chain h (n+1)) e
        rcases ih with z | z
        · exact absurd (by show F (it F (n+1) _) = F (it F n _); rw [z]) e
        · exact .inr (by omega)
  rcases key N with z | z
  · exact z
  · omega
theorem stops {b:Bool} {F:Tr N→Tr N} (h:∀ t u,le t u→le (F t) (F u)) {n:Nat} (hn:it F (n+1) (fun _=>!b) = it F n fun _=>!b):it F (n+1) (fun _=>!b) = it F N fun _=>!b:=by
  rcases Nat.le_total n N with z | z
  · obtain ⟨m,rfl⟩:=Nat.exists_eq_add_of_le z
    rw [hn]
    have:=it_stay hn m
    rw [this]
  · obtain ⟨m,hm⟩:=Nat.exists_eq_add_of_le z
    subst hm
    rw [hn]
    exact it_stay (stable h) m
theorem F_mono (W:Wo N) (s:Sy) (e:En N) (x:Str):∀ t u,le t u→le (hold W s (put e x t)) (hold W s (put e x u)):=fun _ _ ht=>mono W s (put_le (fun _ _ z=>z) ht)
def turn:Sy→Sy
  | .y0 b=>.y0 (!b) | .mk b x=>.mk (!b) x | .nm x=>.nm x | .st b s=>.st (!b) (turn s) | .pr b s t=>.pr (!b) (turn s) (turn t) | .bn b x s=>.bn (!b) x (turn s)
def neg (t:Tr N):Tr N:=fun i=>!t i
end Se
end L2

namespace L2
open PySem PySem.Spec PyProof.Rows
section
variable {X:Cx}
theorem kV_rel {k:Key} {v:Value} (h:keyIs k v = true):RelV (kV k) v:=by
  rcases keyIs_shape h with ⟨i,t,rfl,rfl⟩ | ⟨x,t,rfl,rfl⟩
  · exact ⟨t,rfl⟩
  · exact ⟨t,rfl⟩
theorem keys_vals:∀ {kvs:List (Key×V)} {vs:List (Key×Value)} {acc:List Value},KV kvs vs→acc.length = vs.length→(∀ (i:Nat) (v:Value),acc[i]? = some v→∃ k x,vs[i]? = some (k,x)∧keyIs k v = true)→Vals (kvs.map fun kv=>kV kv.1) acc
  | [],_,acc,.nil,hl,_=>by
    have e:acc = []:=List.eq_nil_of_length_eq_zero hl
    subst e
    exact .nil
  | p::r,q::vs,[],.cons _ _,hl,_=>by simp at hl
  | p::r,q::vs,v::acc,.cons h t,hl,ha=>by
    obtain ⟨k,x,e,hk⟩:=ha 0 v rfl
    simp only [List.getElem?_cons_zero,Option.some.injEq] at e
    refine .cons ?_ (keys_vals (acc:=acc) t (by simpa using hl) fun i w' hw=>?_)
    · have e1:p.1 = k:=by rw [h.1,e]
      show RelV (kV p.1) v
      rw [e1]
      exact kV_rel hk
    · simpa using ha (i+1) w' (by simpa using hw)
theorem call_listD (hc:X.calm = true):CallR X (.type "list") (fun xs H Q=>∃ a kvs,xs = [V.ref a]∧H a = some (.dK kvs)∧∀ l,H l = none→Q (.ref l) (upd H l (.lst (kvs.map fun kv=>kV kv.1)))):=by
  intro pins s σ H xs us Q I r h
  obtain ⟨a,kvs,rfl,ha,q⟩:=h
  obtain ⟨u,rfl,ru⟩:=vals1 r
  cases ru
  obtain ⟨hz,lo,vs,rk,hD⟩:=(show ObjOk X.prog X.w H s.heap a (.dK kvs) from I.hok a _ ha)
  have hlen:kvs.length = vs.length:=Paired.length rk
  obtain ⟨ep,hat⟩:=hD.dictAt
  refine PySem.W.kdl_call (PySem.W.kdl_dict (knd:=mixKind X.prog X.w) (kvs:=vs) (ep:=ep) lo) (I.ok.hd hc) hat (by rw [← hlen]; exact hz) fun h' tk acc c kp hd hacc=>?_
  have hf:=I.hok.fresh (Nat.le_refl s.heap.objs.size)
  have vv:Vals (kvs.map fun kv=>kV kv.1) acc.toList:=keys_vals rk (by rw [Array.length_toList]; exact hacc.1) fun i v hv=>hacc.2 i v (by rw [← Array.getElem?_toList]; exact hv)
  exact ⟨.ref s.heap.objs.size,upd H s.heap.objs.size (.lst (kvs.map fun kv=>kV kv.1)),I.laid kp (Nat.le_refl _) ⟨by rw [List.length_map]; exact hz,acc.toList,c,vv,by simpa using hd⟩,rfl,q _ hf⟩
theorem call_allB (hc:X.calm = true):CallR X (.builtin "all") (fun xs H Q=>∃ (l:Addr) (bs:List Bool),xs = [.ref l]∧SqL X.K H l (bs.map V.bl)∧Q (.bl (bs.all id)) H):=by
  intro pins s σ H xs us Q I r h
  obtain ⟨l,bs,rfl,hq,q⟩:=h
  obtain ⟨u,rfl,ru⟩:=vals1 r
  cases ru
  obtain ⟨its,rv,p,hz⟩:=I.list hq
  have hlen:=rv.length
  rw [List.length_map] at hlen
  have lt:l < s.heap.objs.size:=by obtain ⟨o,e,_⟩:=p.isList; exact Heap.lt_size e
  refine call_all_walk (wpAny_pyIter_list p.isList ?_)
  refine ⟨s.heap.objs.size,_,_,its.toArray.size,_,_,fun i=>bs.getD i true,rfl,Walks.list (A:=X.A.in1) (show X.A.in1.handled = none from I.ok.hd hc) s.heap.objs.size l (Nat.ne_of_lt lt) its.toArray,⟨⟨_,Heap.get?_push_size _ rfl,rfl,rfl⟩,p.isList.at fun o e=>Heap.get?_push_of_some _ e⟩,?_,fun h' tk kk=>?_⟩
  · intro i v s' Q' E' hv hQ'
    have hv':its[i]? = some v:=by simpa using hv
    have hb:bs[i]? = some (bs.getD i true):=by
      have hi:i < its.length:=(List.getElem?_eq_some_iff.mp hv').1
      rw [List.getD,List.getElem?_eq_getElem (show i < bs.length by omega)]
      rfl
    obtain ⟨u,hu,ru⟩:=rv.get (i:=i) (x:=.bl (bs.getD i true)) (by rw [List.getElem?_map,hb]; rfl)
    rw [hv'] at hu
    cases hu
    cases ru
    exact wpAny_truthy_bool hQ'
  · have e:(List.range its.toArray.size).all (fun i=>bs.getD i true) = bs.all id:=by
      rw [List.size_toArray,← hlen,Bool.eq_iff_iff,List.all_eq_true,List.all_eq_true]
      constructor
      · intro h x hx
        obtain ⟨i,hi,e⟩:=List.mem_iff_getElem.mp hx
        have z:=h i (List.mem_range.mpr hi)
        rw [List.getD,List.getElem?_eq_getElem hi] at z
        rw [← e]
        exact z
      · intro h i hi
        have hi':=List.mem_range.mp hi
        rw [List.getD,List.getElem?_eq_getElem hi']
        exact h _ (List.getElem_mem hi')
    rw [e]
    refine ⟨.bl _,H,?_,rfl,q⟩
    refine I.kept fun b o hb=>kk b o (fun z=>?_) (Heap.get?_push_of_some _ hb)
    exact absurd (Heap.lt_size hb) (by rw [List.mem_singleton.mp z]; exact Nat.lt_irrefl _)
end
end L2
namespace Mi
def mv (ms:List Int) (x:Int):Int:=ms.getD x.toNat 0
def fin (ms:List Int):Nat→List Int→Int→List Int×Int
  | 0,tr,at_=>(tr,at_)
  | n+1,tr,at_=>if at_∈tr then (tr,at_) else fin ms n (tr++[at_]) (mv ms at_)
theorem fin_in {ms:List Int} {n:Nat} {tr:List Int} {x:Int} (h:x∈tr):fin ms n tr x = (tr,x):=by
  cases n with
  | zero=>rfl
  | succ n=>rw [fin,if_pos h]
theorem few:∀ (n:Nat) (l:List Int),l.Nodup→(∀ x∈l,0≤x∧x < (n:Int))→l.length≤n
  | 0,l,_,h=>by
    cases l with
    | nil=>simp
    | cons x r=>have:=h x List.mem_cons_self; omega
  | n+1,l,nd,h=>by
    by_cases hn:(n:Int)∈l
    · have e:=List.length_erase_of_mem hn
      have z:=few n (l.erase (n:Int)) (nd.erase _) fun x hx=>by
        have h1:=h x (List.mem_of_mem_erase hx)
        have h2:x≠(n:Int):=fun e=>by
          subst e
          exact absurd hx (List.Nodup.not_mem_erase nd)
        omega
      omega
    · have z:=few n l nd fun x hx=>by
        have h1:=h x hx
        have h2:x≠(n:Int):=fun e=>hn (e▸hx)
        omega
      exact Nat.le_succ_of_le ‹_›
structure Way (n:Nat) (ms:List Int) (st:Int) (tr:List Int) (at_:Int):Prop where
  nd:tr.Nodup
  tin:∀ x∈tr,0≤x∧x < (n:Int)
  ain:0≤at_∧at_ < (n:Int)
  run:fin ms n [] st = fin ms (n - tr.length) tr at_
theorem Way.start {n:Nat} {ms:List Int} {st:Int} (h:0≤st∧st < (n:Int)):Way n ms st [] st:=⟨List.nodup_nil,by simp,h,rfl⟩
theorem Way.lt {n:Nat} {ms:List Int} {st:Int} {tr:List Int} {x:Int} (h:Way n ms st tr x) (hx:x∉tr):tr.length < n:=by
  have z:=few n (x::tr) (List.nodup_cons.mpr ⟨hx,h.nd⟩) fun y hy=>by
    rcases List.mem_cons.mp hy with e | e
    · rw [e]; exact h.ain
    · exact h.tin y e
  rw [List.length_cons] at z
  assumption
theorem Way.next {n:Nat} {ms:List Int} {st:Int} {tr:List Int} {x:Int} (h:Way n ms st tr x) (hx:x∉tr) (hm:0≤mv ms x∧mv ms x < (n:Int)):Way n ms st (tr++[x]) (mv ms x):=by
  have hl:=h.lt hx
  refine ⟨?_,fun y hy=>?_,hm,?_⟩
  · refine List.nodup_append.mpr ⟨h.nd,by simp,fun a ha b hb=>?_⟩
    rw [List.mem_singleton.mp hb]
    exact fun e=>hx (e▸ha)
  · rcases List.mem_append.mp hy with e | e
    · exact h.tin y e
    · rw [List.mem_singleton.mp e]; exact h.ain
  · rw [h.run]
    obtain ⟨k,hk⟩:∃ k,n - tr.length = k+1:=⟨n - tr.length - 1,by omega⟩
    rw [hk,fin,if_neg hx]
    congr 1
    rw [List.length_append,List.length_singleton]
    omega
theorem Way.done {n:Nat} {ms:List Int} {st:Int} {tr:List Int} {x:Int} (h:Way n ms st tr x) (hx:x∈tr):fin ms n [] st = (tr,x):=by rw [h.run,fin_in hx]
def came (tr:List Int) (k:Nat):List (L2.Key×L2.V):=match tr with
  | []=>[]
  | x::r=>(.inl x,.int (k:Int))::came r (k+1)
theorem came_len:∀ (tr:List Int) (k:Nat),(came tr k).length = tr.length
  | [],_=>rfl
  | x::r,k=>by simp [came,came_len r]
theorem came_snoc:∀ (tr:List Int) (x:Int) (k:Nat),came (tr++[x]) k = came tr k++[(.inl x,.int ((k+tr.length:Nat):Int))]
  | [],x,k=>by simp [came]
  | y::r,x,k=>by
    simp only [List.cons_append,came,came_snoc r x (k+1),List.length_cons]
    rw [show k+1+r.length = k+(r.length+1) by omega]
theorem came_keys:∀ (tr:List Int) (k:Nat),(came tr k).map (fun kv=>L2.kV kv.1) = tr.map L2.V.int
  | [],_=>rfl
  | x::r,k=>by
    rw [came,List.map_cons,List.map_cons,came_keys r]
    rfl
theorem came_val:∀ (tr:List Int) (x:Int) (k:Nat),L2.valV (came tr k) (.inl x) = if x∈tr then some (.int ((k+tr.idxOf x:Nat):Int)) else none
  | [],x,k=>by simp [came,L2.valV]
  | y::r,x,k=>by
    have ih:=came_val r x (k+1)
    unfold L2.valV at ih ⊢
    rw [came,List.find?_cons]
    by_cases e:y = x
    · subst e
      simp
    · have e':¬ (Sum.inl y:L2.Key) = Sum.inl x:=fun z=>e (Sum.inl.inj z)
      rw [decide_eq_false e']
      dsimp only
      rw [ih]
      have e2:¬ x = y:=fun z=>e z.symm
      by_cases hx:x∈r
      · rw [if_pos hx,if_pos (List.mem_cons_of_mem _ hx),List.idxOf_cons]
        rw [show (y == x) = false from beq_eq_false_iff_ne.mpr e]
        simp only [cond_false]
        congr 3
        omega
      · rw [if_neg hx,if_neg (by simp [e2,hx])]
end Mi

namespace L2
open PySem PySem.Spec PyProof.Rows
section
variable {X:Cx}
theorem strs_vals:∀ {ts:List Str} {us:List Value},Vals (ts.map V.str) us→∃ l:List (Str×Tok),us = strValues l∧l.map (·.1) = ts
  | [],_,.nil=>⟨[],rfl,rfl⟩
  | t::ts,_,.cons r rs=>by
    obtain ⟨k,rfl⟩:=r
    obtain ⟨l,rfl,e⟩:=strs_vals rs
    exact ⟨(t,k)::l,rfl,by rw [List.map_cons,e]⟩
theorem vals_strs:∀ l:List (Str×Tok),Vals ((l.map (·.1)).map V.str) (strValues l)
  | []=>.nil
  | p::l=>.cons ⟨p.2,rfl⟩ (vals_strs l)
theorem mt_join:MtR X "str.join" (fun x vs H Q=>∃ (z:Str) (l:Addr) (ts:List Str),x = .str z∧vs = [.ref l]∧SqL X.K H l (ts.map V.str)∧JoinOk z ts = true∧Q (.str (Str.join z ts)) H):=by
  intro pins s σ H x vs v us Q I rx rv h
  obtain ⟨z,l,ts,rfl,rfl,hq,hj,q⟩:=h
  obtain ⟨t,rfl⟩:=rx
  obtain ⟨u,rfl,ru⟩:=vals1 rv
  cases ru
  obtain ⟨its,r,p,hz⟩:=I.list hq
  obtain ⟨ps,rfl,e⟩:=strs_vals r
  refine SC.join p.isList e hj fun t' k=>⟨.str _,H,I.tok _,⟨_,rfl⟩,?_⟩
  rw [show Txt.join z ts = Str.join z ts from StrLaws.glued_eq_join z ts]
  exact q
theorem mt_split:MtR X "str.split" (fun x vs H Q=>∃ (z y:Str),x = .str z∧vs = [.str y]∧(y.length == 0) = false∧z.length+2≤sizeLine∧∀ l,H l = none→Q (.ref l) (upd H l (.lst ((Txt.split z y).map V.str)))):=by
  intro pins s σ H x vs v us Q I rx rv h
  obtain ⟨z,y,rfl,rfl,hy,hz,q⟩:=h
  obtain ⟨t,rfl⟩:=rx
  obtain ⟨u,rfl,ru⟩:=vals1 rv
  obtain ⟨tu,rfl⟩:=ru
  have hn:(Builtin.Str.partsBetween z (Builtin.Str.occurrences z y 0 z.length (z.length+1)) y.length).length≤sizeLine:=by
    have e1:=StrLaws.occ_length_le z y 0 z.length (z.length+1)
    rw [length_partsBetween]; omega
  have hlen:(Txt.split z y).length≤sizeLine:=by
    unfold Txt.split
    split
    · show 1≤sizeLine; decide
    · split
      · show 1≤sizeLine; decide
      · exact hn
  have fin:∀ (l:List (Str×Tok)) (k:Nat),l.map (·.1) = Txt.split z y→EP X pins σ Q (.ref s.heap.objs.size) { s with heap:=s.heap.push { cls:=.type "list",data:=.seq (strValues l).toArray },toks:=k }:=fun l k e=>by
    have hf:=I.hok.fresh (Nat.le_refl s.heap.objs.size)
    refine ⟨.ref s.heap.objs.size,upd H s.heap.objs.size (.lst ((Txt.split z y).map V.str)),I.laid (fun b o e=>Heap.get?_push_of_some _ e) (Nat.le_refl _) (show ObjOk X.prog X.w _ _ _ (.lst ((Txt.split z y).map V.str)) from ⟨by rw [List.length_map]; exact hlen,strValues l,_,?_,Heap.get?_push_size _ rfl⟩),rfl,q _ hf⟩
    rw [← e]
    exact vals_strs l
  cases h1:(decide (z.length < y.length) || decide (Builtin.Str.strKind z < Builtin.Str.strKind y))
  · cases hf:(Builtin.Str.occurrences z y 0 z.length (z.length+1)).isEmpty
    · refine call_meets F.slot_str_split (typeIs_str _ _ _) F.entry_str_split (F.args_str_split_2 _ _) (meets_str_split_sep z y t tu h1 hy hf (by omega) hn) ?_
      rw [strsFrom_eq]
      exact fin _ _ ((numbered_texts _ _).trans ((if_neg (ne_true_of_eq_false h1)).trans (if_neg (ne_true_of_eq_false hf))).symm)
    · exact call_meets F.slot_str_split (typeIs_str _ _ _) F.entry_str_split (F.args_str_split_2 _ _) (meets_str_split_not_found z y t tu h1 hy hf) (fin [(z,t)] s.toks ((if_neg (ne_true_of_eq_false h1)).trans (if_pos hf)).symm)
  · exact call_meets F.slot_str_split (typeIs_str _ _ _) F.entry_str_split (F.args_str_split_2 _ _) (meets_str_split_cannot_occur z y t tu h1) (fin [(z,t)] s.toks (if_pos h1).symm)
theorem call_int_num:CallR X (.type "int") (fun xs H Q=>∃ n:Int,xs = [.str (Str.ofString (toString n))]∧0≤n∧n < 10 ^ 10∧Q (.int n) H):=by
  intro pins s σ H xs us Q I r h
  obtain ⟨n,rfl,h0,h1,q⟩:=h
  obtain ⟨u,rfl,t,rfl⟩:=vals1 r
  exact PySem.W.KIN.call_num h0 h1 ⟨.int n,H,I.tok _,⟨_,rfl⟩,q⟩
end
namespace Tx
theorem cps_join_cons (c:Nat) (a:Str):∀ (r:List Str),r≠[]→(Str.join ⟨#[c]⟩ (a::r)).cps.toList = a.cps.toList++c::(Str.join ⟨#[c]⟩ r).cps.toList
  | [],h=>absurd rfl h
  | b::r,_=>by
    show ((a++⟨#[c]⟩++Str.join ⟨#[c]⟩ (b::r):Str)).cps.toList = _
    simp [Str.cps_append]
theorem cut_one {c:Nat}:∀ {a b x y:List Nat},c∉a→c∉b→a++c::x = b++c::y→a = b∧x = y
  | [],[],_,_,_,_,h=>⟨rfl,(List.cons.inj h).2⟩
  | [],d::b,_,_,_,hb,h=>absurd (List.mem_cons.mpr (.inl (List.cons.inj h).1)) hb
  | d::a,[],_,_,ha,_,h=>absurd (List.mem_cons.mpr (.inl (List.cons.inj h).1.symm)) ha
  | d::a,e::b,x,y,ha,hb,h=>by
    obtain ⟨rfl,h2⟩:=List.cons.inj h
    obtain ⟨rfl,rfl⟩:=cut_one (fun z=>ha (List.mem_cons.mpr (.inr z))) (fun z=>hb (List.mem_cons.mpr (.inr z))) h2
    exact ⟨rfl,rfl⟩
theorem cut_none {c:Nat} {a b x:List Nat} (ha:c∉a) (h:a = b++c::x):False:=ha (by rw [h]; simp)
theorem join_inj (c:Nat):∀ {p q:List Str},p≠[]→q≠[]→(∀ x∈p,c∉x.cps.toList)→(∀ x∈q,c∉x.cps.toList)→(Str.join ⟨#[c]⟩ p).cps.toList = (Str.join ⟨#[c]⟩ q).cps.toList→p = q
  | [],_,h,_,_,_,_=>absurd rfl h
  | _,[],_,h,_,_,_=>absurd rfl h
  | [a],[b],_,_,_,_,h=>by
    have e:a = b:=Str.ext' (Array.toList_inj.mp h)
    rw [e]
  | [a],b::b'::r,_,_,hp,_,h=>by
    rw [cps_join_cons c b (b'::r) (by simp)] at h
    exact (cut_none (hp a (by simp)) h).elim
  | a::a'::r,[b],_,_,_,hq,h=>by
    rw [cps_join_cons c a (a'::r) (by simp)] at h
    exact (cut_none (hq b (by simp)) h.symm).elim
  | a::a'::r,b::b'::r',_,_,hp,hq,h=>by
    rw [cps_join_cons c a (a'::r) (by simp),cps_join_cons c b (b'::r') (by simp)] at h
    obtain ⟨e1,e2⟩:=cut_one (hp a (by simp)) (hq b (by simp)) h
    have e:a = b:=Str.ext' (Array.toList_inj.mp e1)
    have e':=join_inj c (p:=a'::r) (q:=b'::r') (by simp) (by simp) (fun x hx=>hp x (List.mem_cons.mpr (.inr hx))) (fun x hx=>hq x (List.mem_cons.mpr (.inr hx))) e2
    rw [e,e']
theorem split_ne (x y:Str):Txt.split x y≠[]:=by
  unfold Txt.split
  split
  · simp
  · split
    · simp
    · intro h
      have:=congrArg List.length h
      rw [length_partsBetween] at this
      simp at this
theorem split_join (c:Nat) {p:List Str} (h:p≠[]) (hp:∀ x∈p,c∉x.cps.toList):Txt.split (Str.join ⟨#[c]⟩ p) ⟨#[c]⟩ = p :=
  join_inj c (split_ne _ _) h (StrLaws.split_free _ c) hp (by rw [StrLaws.join_split])
end Tx
end L2

namespace L2
open PySem PySem.Spec PyProof.Rows
def KDw (P:Program) (w:World) (K:PySem.W.Frag) (a:Addr) (kvs:List (Key×V)):Prop :=
  (a == sysModules) = false∧∃ (o:Obj) (es:Array DictEntry) (ep:Nat) (vs:List (Key×Value)),K.lookup a = some o∧o.ExactDict∧o.data = .dict es ep∧PySem.KeysOf (mixKind P w) es∧PySem.Pairs (mixKind P w) es.toList vs∧(vs.map (·.1)).Nodup∧KV kvs vs
section
variable {X:Cx} {pins:List (Addr×Obj)} {σ:St} {H:Hp} {s:Shared} {a:Addr} {kvs:List (Key×V)}
theorem Inv.kd (I:Inv X pins σ H s) (h:KDw X.prog X.w X.K a kvs):(a == sysModules) = false∧∃ vs,KV kvs vs∧s.heap.DictOf (mixKind X.prog X.w) a vs:=by
  obtain ⟨h0,o,es,ep,vs,hk,h1,h2,h3,h4,h5,h6⟩:=h
  exact ⟨h0,vs,h6,o,es,ep,I.kIn a o hk,h1,h2,h3,h4,h5⟩
theorem op_notInD:OpR X (compareOp .NotIn) (fun x y H Q=>∃ (k:Key) (a:Addr) (kvs:List (Key×V)),x = kV k∧y = .ref a∧KDw X.prog X.w X.K a kvs∧Q (.bl (!(valV kvs k).isSome)) H):=by
  intro pins s σ H x y v u Q I rx ry h
  obtain ⟨k,a,kvs,rfl,rfl,hk,q⟩:=h
  cases ry
  obtain ⟨hd,vs,rel,dd⟩:=I.kd hk
  refine wpAny_notIn_of (kV_is rx) hd dd.mapOf ?_
  rw [← (rel.val k).isSome_eq]
  exact ⟨.bl _,H,I.tok _,rfl,q⟩
def tDGetK (P:Program) (w:World) (K:PySem.W.Frag) (td ty:TE):TE:=fun σ H Q=>td σ H fun x H1=>ty σ H1 fun y H2=>∃ (a:Addr) (kvs:List (Key×V)) (k:Key) (v:V),x = .ref a∧y = kV k∧KDw P w K a kvs∧valV kvs k = some v∧Q v H2
theorem pe_dgetK {o i:Expr} {td ty:TE} {pos:Pos} (ho:PE X o td) (hi:PE X i ty) (hs:NoSl i):PE X (.Subscript o i pos) (tDGetK X.prog X.w X.K td ty):=by
  intro pins s σ H Q I h
  refine subD_of PySem.F.slot_dict_getitem.lookup hs (thn (ho pins s σ H _ I h) fun u s1 ⟨x,H1,I1,rx,q1⟩=>thn (hi pins s1 σ H1 _ I1 q1) fun iv s2 ⟨y,H2,I2,ry,a,kvs,k,v,ex,ey,hk,l,q2⟩=>?_)
  subst ex ey
  obtain rfl:u = Value.ref a:=rx
  obtain ⟨hd,vs,rel,dd⟩:=I2.kd hk
  obtain ⟨w',hw,rw'⟩:=RelO.some_of (v:=v) (o:=valueAt vs k) (by rw [← l]; exact rel.val k)
  exact ⟨dd.typeIs,wpAny_getItem_of (kV_is ry) dd.mapOf hw ⟨v,H2,I2.tok _,rw',q2⟩⟩
theorem call_anyB (hc:X.calm = true):CallR X (.builtin "any") (fun xs H Q=>∃ (l:Addr) (bs:List Bool),xs = [.ref l]∧SqL X.K H l (bs.map V.bl)∧Q (.bl (bs.any id)) H):=by
  intro pins s σ H xs us Q I r h
  obtain ⟨l,bs,rfl,hq,q⟩:=h
  obtain ⟨u,rfl,ru⟩:=vals1 r
  cases ru
  obtain ⟨its,rv,p,hz⟩:=I.list hq
  have hlen:=rv.length
  rw [List.length_map] at hlen
  have lt:l < s.heap.objs.size:=by obtain ⟨o,e,_⟩:=p.isList; exact Heap.lt_size e
  refine call_any_walk (wpAny_pyIter_list p.isList ?_)
  refine ⟨s.heap.objs.size,_,_,its.toArray.size,_,_,fun i=>bs.getD i true,rfl,Walks.list (A:=X.A.in1) (show X.A.in1.handled = none from I.ok.hd hc) s.heap.objs.size l (Nat.ne_of_lt lt) its.toArray,⟨⟨_,Heap.get?_push_size _ rfl,rfl,rfl⟩,p.isList.at fun o e=>Heap.get?_push_of_some _ e⟩,?_,fun h' tk kk=>?_⟩
  · intro i v s' Q' E' hv hQ'
    have hv':its[i]? = some v:=by simpa using hv
    have hb:bs[i]? = some (bs.getD i true):=by
      have hi:i < its.length:=(List.getElem?_eq_some_iff.mp hv').1
      rw [List.getD,List.getElem?_eq_getElem (show i < bs.length by omega)]
      rfl
    obtain ⟨u,hu,ru⟩:=rv.get (i:=i) (x:=.bl (bs.getD i true)) (by rw [List.getElem?_map,hb]; rfl)
    rw [hv'] at hu
    cases hu
    cases ru
    exact wpAny_truthy_bool hQ'
  · have e:(List.range its.toArray.size).any (fun i=>bs.getD i true) = bs.any id:=by
      rw [List.size_toArray,← hlen,Bool.eq_iff_iff,List.any_eq_true,List.any_eq_true]
      constructor
      · rintro ⟨i,hi,z⟩
        have hi':=List.mem_range.mp hi
        rw [List.getD,List.getElem?_eq_getElem hi'] at z
        exact ⟨_,List.getElem_mem hi',z⟩
      · rintro ⟨x,hx,z⟩
        obtain ⟨i,hi,e⟩:=List.mem_iff_getElem.mp hx
        refine ⟨i,List.mem_range.mpr hi,?_⟩
        rw [List.getD,List.getElem?_eq_getElem hi,e]
        exact z
    rw [e]
    refine ⟨.bl _,H,?_,rfl,q⟩
    refine I.kept fun b o hb=>kk b o (fun z=>?_) (Heap.get?_push_of_some _ hb)
    exact absurd (Heap.lt_size hb) (by rw [List.mem_singleton.mp z]; exact Nat.lt_irrefl _)
end
def Its (x:Str):It:=⟨fun i _=>i < x.cps.size,fun i H y H'=>H' = H∧∃ c,x.cps[i]? = some c∧y = .str ⟨#[c]⟩,fun i _=>x.cps.size≤i⟩
theorem turn_str {P:Program} {w:World} {K:PySem.W.Frag} {tg:Expr} (x:Str) (t:Tok) (it:Addr):Turn P w K tg (Its x) [it] it (fun i h=>h.IsStrIter it "str_ascii_iterator" x t i) where
  mem:=by simp
  obj:=fun i h st b hb=>by
    have e:b = it:=by simpa using hb
    subst e
    obtain ⟨o,e,c,d⟩:=st
    exact ⟨o,e,fun v z=>by rw [d] at z; cases z⟩
  keep:=fun i h h' st k=>by
    obtain ⟨o,e,r⟩:=st
    exact ⟨o,k it (by simp) o e,r⟩
  item:=by
    intro X hP hw hK hc i pins s σ H E I hf st hg
    subst hP hw hK
    have hx:x.cps[i]? = some (x.cps[i]'hg):=Array.getElem?_eq_getElem hg
    obtain ⟨f0,f1,f2,f3,f4,f5⟩:=hf it (by simp)
    refine wpAny_pyNext_ascii_item st hx fun h' st' sb=>?_
    have I1:Inv X pins σ H { s with heap:=h',toks:=s.toks+1 }:=I.turned (t':=s.toks+1) (fun b o hb e=>(sb.2 b hb).trans e) f0 f1 f3 f4 f5
    obtain ⟨o,e,c,d⟩:=id st'
    exact ⟨_,rfl,go_of (s:={ s with heap:=h',toks:=s.toks+1 }) e c d (by decide) ⟨.str ⟨#[x.cps[i]'hg]⟩,H,I1,⟨_,rfl⟩,⟨rfl,_,hx,rfl⟩,st',fun b hb=>(hf b hb).1⟩⟩
  done:=by
    intro X hP hw hK hc i pins s σ H E I hf st hg
    subst hP hw hK
    obtain ⟨f0,f1,f2,f3,f4,f5⟩:=hf it (by simp)
    exact wpAny_pyNext_ascii_end (I.ok.hd hc) st (by simp [show x.cps.size≤i from hg]) fun h' eb=>⟨rfl,I.turned (t':=s.toks) (fun b o hb e=>eb b o hb e) f0 f1 f3 f4 f5⟩
  self:=fun _ _ _ _ _ st h=>wpAny_pyIter_striter_ascii st h
def iStr (tl:TE):TI:=fun σ H R=>tl σ H fun x H1=>∃ z:Str,x = .str z∧z.cps.all (· < 128) = true∧R (Its z) H1
theorem pi_str {X:Cx} {tg l:Expr} {tl:TE} (hl:PE X l tl):PI X tg l (iStr tl):=by
  intro pins s σ H R I h
  refine thn (hl pins s σ H _ I h) fun v s1 ⟨x,H1,I1,r1,q1⟩=>?_
  obtain ⟨z,e,hz,q⟩:=q1
  subst e
  obtain ⟨t,rfl⟩:=r1
  refine wpAny_pyIter_ascii hz ?_
  refine ⟨s1.heap.objs.size,[s1.heap.objs.size],_,_,H1,rfl,I1.kept (t':=s1.toks) fun b o e=>Heap.get?_push_of_some _ e,turn_str z t _,⟨_,Heap.get?_push_size _ rfl,rfl,rfl⟩,fun b hb=>?_,q⟩
  have e:b = s1.heap.objs.size:=by simpa using hb
  subst e
  exact I1.fpOk (Nat.le_refl _) (I1.hok.fresh (Nat.le_refl _))
theorem comp_str {x:Str} {g:TG} {tc:TT} {te:TE} {σ0:St} {H:Hp} {Q:VK} (Pv:Addr→Nat→List V→Hp→Prop) (h0:∀ D,H D = none→Pv D 0 [] (upd H D (.lst [])))
    (hl:∀ D i ys H,i≤x.cps.size→Pv D i ys H→H D = some (.lst ys)∧(i < x.cps.size→ys.length < sizeLine))
    (hs:∀ D i c ys H,x.cps[i]? = some c→Pv D i ys H→g (.str ⟨#[c]⟩) σ0 H fun σ4 H4=>ExtS σ0 σ4∧tc σ4 H4 fun b H5=>if b = true then te σ4 H5 fun y H6=>H6 D = some (.lst ys)∧Pv D (i+1) (ys++[y]) (upd H6 D (.lst (ys++[y]))) else Pv D (i+1) ys H5)
    (hd:∀ D ys H,Pv D x.cps.size ys H→Q (.ref D) H):CompW (Its x) g tc te σ0 H Q:=by
  intro D hD
  refine ⟨fun i m ys H=>m = x.cps.size - i∧i≤x.cps.size∧Pv D i ys H,⟨x.cps.size,by simp,Nat.zero_le _,h0 D hD⟩,?_⟩
  rintro i m ys H2 ⟨rfl,hi,p⟩
  obtain ⟨e,lt⟩:=hl D i ys H2 hi p
  refine ⟨e,?_⟩
  by_cases hlt:i < x.cps.size
  · refine .inr ⟨hlt,lt hlt,fun ys' H'=>Pv D (i+1) ys' H',fun ys' H' p'=>⟨x.cps.size - (i+1),by omega,rfl,hlt,p'⟩,fun y H3 yy=>?_⟩
    obtain ⟨e1,c,e2,e3⟩:=yy
    subst e1 e3
    exact hs D i c ys _ e2 p
  · have z:i = x.cps.size:=by omega
    subst z
    exact .inl ⟨Nat.le_refl _,hd D ys H2 p⟩
end L2

namespace L2
open PySem PySem.Spec PyProof.Rows
theorem sum_take_le (ns:List Nat) (i:Nat):(ns.take i).sum≤ns.sum:=by
  have h:(ns.take i).sum+(ns.drop i).sum = ns.sum:=by rw [← List.sum_append,List.take_append_drop]
  omega
theorem mem_le_sum {ns:List Nat} {i:Nat} (h:i < ns.length):ns[i]≤ns.sum:=by
  have e:(ns.take (i+1)).sum = (ns.take i).sum+ns[i]:=by rw [List.take_succ_eq_append_getElem h,List.sum_append]; simp
  have:=sum_take_le ns (i+1)
  omega
section
variable {X:Cx} {pins:List (Addr×Obj)} {σ:St} {H:Hp} {s:Shared}
end
end L2
namespace L2
open PySem
def strsOf:List Value→Option (List Str)
  | []=>some []
  | .str x _::r=>(strsOf r).map fun l=>x::l
  | _=>none
theorem strsOf_vals:∀ {us:List Value} {B:List Str},strsOf us = some B→Vals (B.map V.str) us
  | [],B,h=>by simp [strsOf] at h; subst h; exact .nil
  | .str x t::r,B,h=>by
    simp only [strsOf,Option.map_eq_some_iff] at h
    obtain ⟨l,hl,rfl⟩:=h
    exact .cons ⟨t,rfl⟩ (strsOf_vals hl)
  | .none::_,_,h | .bool _::_,_,h | .int _ _::_,_,h | .ref _::_,_,h | .float _ _::_,_,h | .bytes _ _::_,_,h | .type _::_,_,h | .builtin _::_,_,h | .ellipsis::_,_,h | .notImplemented::_,_,h=>by simp [strsOf] at h
end L2

namespace L2
open PySem PySem.Spec PyProof.Rows
theorem boot_zip:bootBuiltins "zip" = some (.type "zip"):=by decide +kernel
def Itz (K:PySem.W.Frag) (a b:Addr):It :=
  ⟨fun i H=>∃ xs ys x y,SqL K H a xs∧SqL K H b ys∧xs[i]? = some x∧ys[i]? = some y,
   fun i H x H'=>∃ p u v,H p = none∧x = .ref p∧H' = upd H p (.tup [u,v])∧∀ xs ys,SqL K H a xs→SqL K H b ys→xs[i]? = some u∧ys[i]? = some v,
   fun i H=>∃ xs ys,SqL K H a xs∧SqL K H b ys∧(xs.length≤i∨ys.length≤i)⟩
theorem turn_zip {P:Program} {w:World} {K:PySem.W.Frag} {elts:List Expr} {x1:Nat} {pos:Pos} (a b z TI TO i1 i2:Addr) (ap:ZipApart z TI TO i1 i2 a b) :
    Turn P w K (.Tuple elts x1 pos) (Itz K a b) [z,TO,i1,i2,TI] z (fun i h=>IsZip h z TI TO .none∧IsPair h TI (.ref i1) (.ref i2)∧(∃ u v,IsPair h TO u v)∧h.IsListIter i1 a i∧h.IsListIter i2 b i) where
  mem:=by simp
  obj:=fun i h ⟨st,ti,⟨u,v,to⟩,l1,l2⟩ c hc=>by
    simp only [List.mem_cons,List.not_mem_nil,or_false] at hc
    rcases hc with e | e | e | e | e<;>subst e
    · exact ⟨_,st,fun v q=>by have q':Data.fields _ = Data.cell v:=q; cases q'⟩
    · exact ⟨_,to,fun v q=>by have q':Data.seq _ _ = Data.cell v:=q; cases q'⟩
    · obtain ⟨o,e,c,d⟩:=l1
      exact ⟨o,e,fun v q=>by rw [d] at q; cases q⟩
    · obtain ⟨o,e,c,d⟩:=l2
      exact ⟨o,e,fun v q=>by rw [d] at q; cases q⟩
    · exact ⟨_,ti,fun v q=>by have q':Data.seq _ _ = Data.cell v:=q; cases q'⟩
  keep:=fun i h h' ⟨st,ti,⟨u,v,to⟩,l1,l2⟩ k=>⟨k z (by simp) _ st,k TI (by simp) _ ti,⟨u,v,k TO (by simp) _ to⟩,l1.at fun o q=>k i1 (by simp) o q,l2.at fun o q=>k i2 (by simp) o q⟩
  item:=by
    intro X hP hw hK hc i pins s σ H E I hf ⟨st,ti,⟨ua,ub,to⟩,l1,l2⟩ hg
    subst hP hw hK
    obtain ⟨xs,ys,x,y,hq,hq2,hx,hy⟩:=hg
    obtain ⟨its,rv,p,hz⟩:=I.list hq
    obtain ⟨its2,rv2,p2,hz2⟩:=I.list hq2
    obtain ⟨u,hu,ru⟩:=rv.get hx
    obtain ⟨u2,hu2,ru2⟩:=rv2.get hy
    refine wpAny_pyNext_zip_item ap st ti to l1 l2 p.isList p2.isList (x:=u) (y:=u2) (by simpa using hu) (by simpa using hu2) fun h1 out to1 l11 l21 tup sz kk=>⟨_,rfl,?_⟩
    refine wpAny_letOwnedTupleGo_zip (s:={ s with heap:=h1 }) out fun h2 st2 sb=>?_
    have hp:H s.heap.objs.size = none:=I.hok.fresh (Nat.le_refl _)
    have lt:∀ b o,s.heap.get? b = some o→b≠s.heap.objs.size:=fun b o q=>Nat.ne_of_lt (Heap.lt_size q)
    have nz:s.heap.objs.size≠z:=(lt z _ st).symm
    have k2:∀ b o,b≠z→b≠TO→b≠i1→b≠i2→s.heap.get? b = some o→h2.get? b = some o:=fun b o h3 h4 h5 h6 q=>(sb.2 b h3).trans (kk b o h3 h4 h5 h6 q)
    have tup2:h2.get? s.heap.objs.size = some { cls:=.type "tuple",data:=.seq #[u,u2] }:=(sb.2 _ nz).trans tup
    have ch:∀ c,c∉[z,TO,i1,i2]→c≠z∧c≠TO∧c≠i1∧c≠i2:=fun c hn=>⟨fun e=>hn (by simp [e]),fun e=>hn (by simp [e]),fun e=>hn (by simp [e]),fun e=>hn (by simp [e])⟩
    refine ⟨.ref s.heap.objs.size,upd H s.heap.objs.size (.tup [x,y]),?_,rfl,⟨_,x,y,hp,rfl,rfl,fun ys1 ys2 hy1 hy2=>by rw [I.list_inj hy1 hq,I.list_inj hy2 hq2]; exact ⟨hx,hy⟩⟩,
      ⟨st2,k2 TI _ ap.TIz ap.TITO ap.TIi1 ap.TIi2 ti,⟨u,u2,(sb.2 TO ap.TOz).trans to1⟩,l11.at fun o q=>(sb.2 i1 ap.i1z).trans q,l21.at fun o q=>(sb.2 i2 ap.i2z).trans q⟩,fun c hb=>?_⟩
    · show Inv X pins σ (upd H s.heap.objs.size (.tup [x,y])) { s with heap:=h2,gens:=s.gens,drawn:=s.drawn,toks:=s.toks }
      refine I.step (h':=h2) (g':=s.gens) (t':=s.toks) (d':=s.drawn) (ch:=[z,TO,i1,i2]) (fun c hb=>?_) (fun c o _ _ hn q _=>by obtain ⟨a1,a2,a3,a4⟩:=ch c hn; exact k2 c o a1 a2 a3 a4 q) (fun c o _ _ hn q _=>by obtain ⟨a1,a2,a3,a4⟩:=ch c hn; exact ⟨o.slots,k2 c o a1 a2 a3 a4 q⟩)
        (fun b o _ q n=>by rw [upd_ne (lt b o q)]; exact n) (fun c o hn q=>by obtain ⟨a1,a2,a3,a4⟩:=ch c hn; exact ⟨o,k2 c o a1 a2 a3 a4 q⟩) (fun b ys q=>by rw [upd_ne (ne_of_none q hp)]; exact q) (fun b o v q=>by rw [upd_ne (ne_of_none q hp)]; exact q)
        (fun b ps q=>⟨#[],by rw [upd_ne (ne_of_none q hp),q]; simp⟩) (fun m hm=>?_) (fun c v q=>?_) I.bare
      · obtain ⟨f0,f1,f2,f3,f4,f5⟩:=hf c (by
          simp only [List.mem_cons,List.not_mem_nil,or_false] at hb ⊢
          rcases hb with e | e | e | e<;>simp [e])
        exact ⟨f3,f1,f4,f5⟩
      · obtain ⟨o,es,ep,q,r⟩:=hm
        have n1:=(hf z (by simp)).2.1
        have n2:=(hf TO (by simp)).2.1
        have n3:=(hf i1 (by simp)).2.1
        have n4:=(hf i2 (by simp)).2.1
        exact ⟨o,es,ep,k2 _ o n1.symm n2.symm n3.symm n4.symm q,r⟩
      · by_cases hb:c = s.heap.objs.size
        · subst hb
          rw [upd_same] at q
          cases q
          exact ⟨(by show 2≤sizeLine; decide),[u,u2],.cons ru (.cons ru2 .nil),⟨_,tup2,rfl,_,rfl⟩⟩
        · rw [upd_ne hb] at q
          have no:∀ d,d∈[z,TO,i1,i2,TI]→(c = d∨H d = some (.own c))→False:=fun d hd hor=>by
            have f0:=(hf d hd).1
            rcases hor with r | r
            · rw [r,f0] at q; cases q
            · rw [r] at f0; cases f0
          refine (I.hok c v q).stay (fun d o hc' z'=>k2 d o ?_ ?_ ?_ ?_ z') (fun c z=>by rw [upd_ne (ne_of_none z hp)]; exact z) fun c ys z=>by rw [upd_ne (ne_of_none z hp)]; exact z
          · rintro rfl; exact no d (by simp) (hc'.imp (fun e=>e.symm) id)
          · rintro rfl; exact no d (by simp) (hc'.imp (fun e=>e.symm) id)
          · rintro rfl; exact no d (by simp) (hc'.imp (fun e=>e.symm) id)
          · rintro rfl; exact no d (by simp) (hc'.imp (fun e=>e.symm) id)
    · have hne:c≠s.heap.objs.size:=by
        simp only [List.mem_cons,List.not_mem_nil,or_false] at hb
        rcases hb with e | e | e | e | e<;>subst e
        · exact lt _ _ st
        · exact lt _ _ to
        · obtain ⟨o,q,_⟩:=l1; exact lt _ _ q
        · obtain ⟨o,q,_⟩:=l2; exact lt _ _ q
        · exact lt _ _ ti
      rw [upd_ne hne]
      exact (hf c hb).1
  done:=by
    intro X hP hw hK hc i pins s σ H E I hf ⟨st,ti,⟨ua,ub,to⟩,l1,l2⟩ hg
    subst hP hw hK
    obtain ⟨xs,ys,hq,hq2,hx⟩:=hg
    obtain ⟨its,rv,p,hz⟩:=I.list hq
    obtain ⟨its2,rv2,p2,hz2⟩:=I.list hq2
    have hl:=rv.length
    have hl2:=rv2.length
    refine wpAny_pyNext_zip_end (I.ok.hd hc) ap st ti to l1 l2 p.isList p2.isList (hx.imp (fun z=>by simp; omega) (fun z=>by simp; omega)) fun h' kk=>⟨rfl,?_⟩
    have ch:∀ c,c∉[z,TO,i1,i2]→c≠z∧c≠TO∧c≠i1∧c≠i2:=fun c hn=>⟨fun e=>hn (by simp [e]),fun e=>hn (by simp [e]),fun e=>hn (by simp [e]),fun e=>hn (by simp [e])⟩
    show Inv X pins σ H { s with heap:=h',gens:=s.gens,drawn:=s.drawn,toks:=s.toks }
    refine I.step (h':=h') (g':=s.gens) (t':=s.toks) (d':=s.drawn) (ch:=[z,TO,i1,i2]) (fun c hb=>?_) (fun c o _ _ hn q _=>by obtain ⟨a1,a2,a3,a4⟩:=ch c hn; exact kk c o a1 a2 a3 a4 q) (fun c o _ _ hn q _=>by obtain ⟨a1,a2,a3,a4⟩:=ch c hn; exact ⟨o.slots,kk c o a1 a2 a3 a4 q⟩)
      (fun b o _ q n=>n) (fun c o hn q=>by obtain ⟨a1,a2,a3,a4⟩:=ch c hn; exact ⟨o,kk c o a1 a2 a3 a4 q⟩) (fun b ys q=>q) (fun b o v q=>q)
      (fun b ps q=>⟨#[],by rw [q]; simp⟩) (fun m hm=>?_) (fun c v q=>?_) I.bare
    · obtain ⟨f0,f1,f2,f3,f4,f5⟩:=hf c (by
        simp only [List.mem_cons,List.not_mem_nil,or_false] at hb ⊢
        rcases hb with e | e | e | e<;>simp [e])
      exact ⟨f3,f1,f4,f5⟩
    · obtain ⟨o,es,ep,q,r⟩:=hm
      have n1:=(hf z (by simp)).2.1
      have n2:=(hf TO (by simp)).2.1
      have n3:=(hf i1 (by simp)).2.1
      have n4:=(hf i2 (by simp)).2.1
      exact ⟨o,es,ep,kk _ o n1.symm n2.symm n3.symm n4.symm q,r⟩
    · have no:∀ d,d∈[z,TO,i1,i2,TI]→(c = d∨H d = some (.own c))→False:=fun d hd hor=>by
        have f0:=(hf d hd).1
        rcases hor with r | r
        · rw [r,f0] at q; cases q
        · rw [r] at f0; cases f0
      refine (I.hok c v q).stay (fun d o hc' z'=>kk d o ?_ ?_ ?_ ?_ z') (fun c z=>z) fun c ys z=>z
      · rintro rfl; exact no d (by simp) (hc'.imp (fun e=>e.symm) id)
      · rintro rfl; exact no d (by simp) (hc'.imp (fun e=>e.symm) id)
      · rintro rfl; exact no d (by simp) (hc'.imp (fun e=>e.symm) id)
      · rintro rfl; exact no d (by simp) (hc'.imp (fun e=>e.symm) id)
  self:=fun _ _ _ _ _ ⟨st,_⟩ h=>wpAny_pyIter_zip st h
def iZip (K:PySem.W.Frag) (ta:TA):TI:=fun σ H R=>ta σ H fun vs H1=>∃ a b,vs = [.ref a,.ref b]∧(∃ xs,SqL K H1 a xs)∧(∃ ys,SqL K H1 b ys)∧R (Itz K a b) H1
theorem pi_zip {X:Cx} {e e':Expr} {ta:TA} {p pos tpos:Pos} {elts:List Expr} {x1:Nat} (hg:Gl X "zip") (hm:X.mg "zip" = none) (ha:PA X [e,e'] ta) (hs:starEach [e,e'] X.env = (false,eval e X.env)::starEach [e'] X.env:=by rfl) (hs2:((backTo pos (starEach [e'] X.env)).any fun x=>x.1) = false:=by rfl) :
    PI X (.Tuple elts x1 tpos) (.Call (.Name "zip" p) [e,e'] [] pos) (iZip X.K ta):=by
  intro pins s σ H R I h
  refine Call_ (ld_blt I hg hm boot_zip (PyProof.Rows.callWith_type1 (thn (ha pos pins s σ H _ I h) fun us s1 ⟨vs,H1,I1,r1,q1⟩=>?_) hs hs2))
  obtain ⟨a,b,e1,⟨xs,hq⟩,⟨ys,hq2⟩,q⟩:=q1
  subst e1
  cases r1 with
  | cons r rr =>
    cases rr with
    | cons r' rr =>
      cases rr
      cases r
      cases r'
      obtain ⟨its,rv,pl,hz⟩:=I1.list hq
      obtain ⟨its2,rv2,pl2,hz2⟩:=I1.list hq2
      have la:a < s1.heap.objs.size:=by obtain ⟨o,e,_⟩:=pl.isList; exact Heap.lt_size e
      have lb:b < s1.heap.objs.size:=by obtain ⟨o,e,_⟩:=pl2.isList; exact Heap.lt_size e
      refine call_zip_2 pl.isList pl2.isList fun h' st ti to l1 l2 sz kk=>?_
      have I2:Inv X pins σ H1 { s1 with heap:=h' }:=I1.kept (t':=s1.toks) kk
      refine wpAny_pyIter_zip (s:={ s1 with heap:=h' }) st ?_
      have ap:ZipApart (s1.heap.objs.size+4) (s1.heap.objs.size+2) (s1.heap.objs.size+3) s1.heap.objs.size (s1.heap.objs.size+1) a b:=by
        generalize s1.heap.objs.size = n at la lb
        have A1:∀ i,a≠n+i:=fun i=>Nat.ne_of_lt (Nat.lt_of_lt_of_le la (Nat.le_add_right _ _))
        have A2:∀ i,b≠n+i:=fun i=>Nat.ne_of_lt (Nat.lt_of_lt_of_le lb (Nat.le_add_right _ _))
        have N:∀ i j:Nat,i≠j→n+i≠n+j:=fun i j h z=>h (Nat.add_left_cancel z)
        exact ⟨N 2 4 (by decide),N 3 4 (by decide),N 0 4 (by decide),N 1 4 (by decide),N 2 3 (by decide),N 2 0 (by decide),N 2 1 (by decide),N 3 0 (by decide),N 3 1 (by decide),N 0 1 (by decide),A1 4,A1 3,A1 0,A1 1,A2 4,A2 3,A2 0,A2 1⟩
      refine ⟨s1.heap.objs.size+4,[s1.heap.objs.size+4,s1.heap.objs.size+3,s1.heap.objs.size,s1.heap.objs.size+1,s1.heap.objs.size+2],_,_,H1,rfl,I2,turn_zip a b (s1.heap.objs.size+4) (s1.heap.objs.size+2) (s1.heap.objs.size+3) s1.heap.objs.size (s1.heap.objs.size+1) ap,⟨st,ti,⟨_,_,to⟩,l1,l2⟩,fun c hb=>?_,q⟩
      have hb':s1.heap.objs.size≤c:=by
        simp only [List.mem_cons,List.not_mem_nil,or_false] at hb
        rcases hb with e | e | e | e | e<;>rw [e]
        · exact Nat.le_add_right _ _
        · exact Nat.le_add_right _ _
        · exact Nat.le_refl _
        · exact Nat.le_add_right _ _
        · exact Nat.le_add_right _ _
      exact I1.fpOk hb' (I1.hok.fresh hb')
theorem comp_zip {K:PySem.W.Frag} {a b:Addr} {xs ys:List V} (hlen:xs.length = ys.length) {g:TG} {tc:TT} {te:TE} {σ0:St} {H:Hp} {Q:VK} (Pv:Addr→Nat→List V→Hp→Prop) (h0:∀ D,H D = none→Pv D 0 [] (upd H D (.lst [])))
    (hl:∀ D i zs H,i≤xs.length→Pv D i zs H→SqL K H a xs∧SqL K H b ys∧H D = some (.lst zs)∧(i < xs.length→zs.length < sizeLine))
    (hs:∀ D i x y zs H p,xs[i]? = some x→ys[i]? = some y→H p = none→Pv D i zs H→g (.ref p) σ0 (upd H p (.tup [x,y])) fun σ4 H4=>ExtS σ0 σ4∧tc σ4 H4 fun b H5=>if b = true then te σ4 H5 fun v H6=>H6 D = some (.lst zs)∧Pv D (i+1) (zs++[v]) (upd H6 D (.lst (zs++[v]))) else Pv D (i+1) zs H5)
    (hd:∀ D zs H,Pv D xs.length zs H→Q (.ref D) H):CompW (Itz K a b) g tc te σ0 H Q:=by
  intro D hD
  refine ⟨fun i m zs H=>m = xs.length - i∧i≤xs.length∧Pv D i zs H,⟨xs.length,by simp,Nat.zero_le _,h0 D hD⟩,?_⟩
  rintro i m zs H2 ⟨rfl,hi,p⟩
  obtain ⟨sq,sq2,e,lt⟩:=hl D i zs H2 hi p
  refine ⟨e,?_⟩
  by_cases hlt:i < xs.length
  · refine .inr ⟨⟨xs,ys,xs[i],ys[i]'(by omega),sq,sq2,by simp [hlt],by simp [show i < ys.length by omega]⟩,lt hlt,fun ys' H'=>Pv D (i+1) ys' H',fun ys' H' p'=>⟨xs.length - (i+1),by omega,rfl,hlt,p'⟩,fun x H3 y=>?_⟩
    obtain ⟨ad,u,v,hn,e1,e2,y⟩:=y
    subst e1 e2
    obtain ⟨y1,y2⟩:=y xs ys sq sq2
    exact hs D i u v zs _ ad y1 y2 hn p
  · have z:i = xs.length:=by omega
    subst z
    exact .inl ⟨⟨xs,ys,sq,sq2,.inl (Nat.le_refl _)⟩,hd D zs H2 p⟩
end L2
namespace L2
open PySem
end L2

namespace L2
open PySem PySem.Spec PyProof.Rows
section
variable {X:Cx} {CX:CXT} {k:Nat} {f C:Addr} {fd:FuncData} {ps:List Str} {sp:Sp} {dvs:List V} {ds:List Value} {E:XK} {x m:Str} {p pos pos':Pos} {e:Expr} {es:List Expr} {t:TA} {σ:St}
end
section
variable {X:Cx}
end
end L2

namespace L2
open PySem PySem.Spec PyProof.Rows
def tCut (P:St→Hp→Prop) (t u:TS):TS:=fun D σ H=>t { D with nx:=P } σ H∧∀ σ' H',P σ' H'→u D σ' H'
theorem pss_cut {X:Cx} {st:Stmt} {rest:List Stmt} {t u:TS} (P:St→Hp→Prop) (h1:PS X st t) (h2:PSs X rest u):PSs X (st::rest) (tCut P t u):=by
  intro pins s σ H D I h
  refine wpAny_execs_cons (thn (h1 pins s σ H { D with nx:=P } I h.1) fun f s1 q=>?_)
  cases f with
  | next =>
    obtain ⟨σ',H',I',q⟩:=q
    exact h2 pins s1 σ' H' D I' (h.2 σ' H' q)
  | ret v=>exact q
  | brk=>exact q
  | cont=>exact q
end L2

namespace L2
open PySem PySem.Spec PyProof.Rows
section
variable {X:Cx} {pins:List (Addr×Obj)} {σ:St} {H:Hp} {s:Shared} {a:Addr} {kvs:List (Key×V)}
theorem Inv.freeze (I:Inv X pins σ H s) (e:H a = some (.dK kvs)):∃ o,Inv X pins σ (upd H a (.frz o (.dK kvs))) s:=by
  obtain ⟨z1,z2,vs,r,o,es,ep,ho,rest⟩:=(show ObjOk X.prog X.w H s.heap a (.dK kvs) from I.hok a _ e)
  have z:=I.write (x:=a) (e:=a) (o:=.frz o (.dK kvs)) (h':=s.heap) (t':=s.toks) (by rw [e]; trivial) (.inl rfl) (fun b u _ q=>q) ⟨o,ho⟩ ⟨ho,z1,z2,vs,r,o,es,ep,ho,rest⟩
  exact ⟨o,z⟩
def tFrz (t:TE):TE:=fun σ H Q=>t σ H fun x H1=>∃ a kvs,x = .ref a∧H1 a = some (.dK kvs)∧∀ o,Q (.ref a) (upd H1 a (.frz o (.dK kvs)))
theorem pe_frz {e:Expr} {t:TE} (h:PE X e t):PE X e (tFrz t):=by
  intro pins s σ H Q I hw
  refine thn (h pins s σ H _ I hw) fun u s1 ⟨x,H1,I1,r1,a,kvs,ex,eh,q⟩=>?_
  subst ex
  obtain ⟨o,I2⟩:=I1.freeze eh
  exact ⟨.ref a,_,I2,r1,q o⟩
end
def Itd (a:Addr) (o:Obj) (kvs:List (Key×V)):It:=⟨fun i H=>H a = some (.frz o (.dK kvs))∧i < kvs.length,fun i H y H'=>H' = H∧∃ kv,kvs[i]? = some kv∧y = kV kv.1,fun i H=>H a = some (.frz o (.dK kvs))∧kvs.length≤i⟩
theorem frz_at {P:Program} {w:World} {H:Hp} {h:Heap} {a:Addr} {o:Obj} {kvs:List (Key×V)} {es:Array DictEntry} {ep:Nat} (ok:HOk P w H h) (e:H a = some (.frz o (.dK kvs))) (hd:o.data = .dict es ep) :
    ∃ vs,KV kvs vs∧h.DictAt (mixKind P w) a vs ep:=by
  obtain ⟨ho,z1,z2,vs,r,o',es',ep',ho',c,d',rest⟩:=(show ObjOk P w H h a (.frz o (.dK kvs)) from ok a _ e)
  rw [ho] at ho'
  cases ho'
  rw [hd] at d'
  cases d'
  exact ⟨vs,r,o,es,ho,c,hd,rest⟩
theorem turn_dict {P:Program} {w:World} {K:PySem.W.Frag} {tg:Expr} (a it:Addr) (o:Obj) (kvs:List (Key×V)) (es:Array DictEntry) (ep:Nat) (hd:o.data = .dict es ep):Turn P w K tg (Itd a o kvs) [it] it (fun i h=>h.IsKeyIter it a i kvs.length ep) where
  mem:=by simp
  obj:=fun i h st b hb=>by
    have e:b = it:=by simpa using hb
    subst e
    obtain ⟨o,e,c,d⟩:=st
    exact ⟨o,e,fun v z=>by rw [d] at z; cases z⟩
  keep:=fun i h h' st k=>by
    obtain ⟨o,e,r⟩:=st
    exact ⟨o,k it (by simp) o e,r⟩
  item:=by
    intro X hP hw hK hc i pins s σ H E I hf st hg
    subst hP hw hK
    obtain ⟨he,hi⟩:=hg
    obtain ⟨vs,r,da⟩:=frz_at I.hok he hd
    have hl:=KV.length r
    obtain ⟨f0,f1,f2,f3,f4,f5⟩:=hf it (by simp)
    have hi':i < vs.length:=by omega
    obtain ⟨q,hq,hk,hr⟩:∃ q,kvs[i]? = some q∧q.1 = vs[i].1∧RelV q.2 vs[i].2:=by
      have go:∀ {l:List (Key×V)} {m:List (Key×Value)},KV l m→∀ (i:Nat) (hm:i < m.length),∃ q,l[i]? = some q∧q.1 = m[i].1∧RelV q.2 m[i].2:=by
        intro l m r
        induction r with
        | nil=>intro i hm; simp at hm
        | cons h t ih =>
          intro i hm
          cases i with
          | zero=>exact ⟨_,rfl,h.1,h.2⟩
          | succ i =>
            obtain ⟨q,a,b,c⟩:=ih i (by simpa using hm)
            exact ⟨q,by simpa using a,b,c⟩
      exact go r i hi'
    rw [hl] at st
    refine wpAny_pyNext_dict_item (k:=vs[i].1) (v:=vs[i].2) st da (by rw [List.getElem?_eq_getElem hi']) fun key h' kis st' sb=>?_
    have I1:Inv X pins σ H { s with heap:=h' }:=I.turned (t':=s.toks) (fun b o hb e=>(sb.2 b hb).trans e) f0 f1 f3 f4 f5
    obtain ⟨o1,e1,c1,d1⟩:=id st'
    refine ⟨key,rfl,go_of (s:={ s with heap:=h' }) e1 c1 d1 (by decide) ⟨kV q.1,H,I1,?_,⟨rfl,q,hq,rfl⟩,by rw [hl]; exact st',fun b hb=>(hf b hb).1⟩⟩
    rw [hk]
    exact kV_rel kis
  done:=by
    intro X hP hw hK hc i pins s σ H E I hf st hg
    subst hP hw hK
    obtain ⟨he,hi⟩:=hg
    obtain ⟨vs,r,da⟩:=frz_at I.hok he hd
    have hl:=KV.length r
    obtain ⟨f0,f1,f2,f3,f4,f5⟩:=hf it (by simp)
    rw [hl] at st
    exact wpAny_pyNext_dict_end (I.ok.hd hc) st da (List.getElem?_eq_none (by omega)) fun h' eb=>⟨rfl,I.turned (t':=s.toks) (fun b o hb e=>eb b o hb e) f0 f1 f3 f4 f5⟩
  self:=fun _ _ _ _ _ st h=>wpAny_pyIter_keyiter st h
def iDict (tl:TE):TI:=fun σ H R=>tl σ H fun x H1=>∃ a o kvs,x = .ref a∧H1 a = some (.frz o (.dK kvs))∧R (Itd a o kvs) H1
theorem pi_dict {X:Cx} {tg l:Expr} {tl:TE} (hl:PE X l tl):PI X tg l (iDict tl):=by
  intro pins s σ H R I h
  refine thn (hl pins s σ H _ I h) fun v s1 ⟨x,H1,I1,r1,q1⟩=>?_
  obtain ⟨a,o,kvs,e,eh,q⟩:=q1
  subst e
  obtain rfl:v = Value.ref a:=r1
  obtain ⟨ho,z1,z2,vs0,r0,o',es,ep,ho',c,hd',rest⟩:=(show ObjOk X.prog X.w H1 s1.heap a (.frz o (.dK kvs)) from I1.hok a _ eh)
  rw [ho] at ho'
  cases ho'
  obtain ⟨vs,r,da⟩:=frz_at I1.hok eh hd'
  have hl':=KV.length r
  refine wpAny_pyIter_dict z2 da ?_
  refine ⟨s1.heap.objs.size,[s1.heap.objs.size],_,_,H1,rfl,I1.kept (t':=s1.toks) fun b o e=>Heap.get?_push_of_some _ e,turn_dict a _ o kvs es ep hd',?_,fun b hb=>?_,q⟩
  · rw [hl']
    exact ⟨_,Heap.get?_push_size _ rfl,rfl,rfl⟩
  · have e:b = s1.heap.objs.size:=by simpa using hb
    subst e
    exact I1.fpOk (Nat.le_refl _) (I1.hok.fresh (Nat.le_refl _))
theorem for_dict {a:Addr} {o:Obj} {kvs:List (Key×V)} {g:TG} {tb:TS} {D:Ends} {σ:St} {H:Hp} (Pv:Nat→St→Hp→Prop) (h0:Pv 0 σ H) (hl:∀ i σ H,i≤kvs.length→Pv i σ H→H a = some (.frz o (.dK kvs)))
    (hs:∀ i kv σ H,kvs[i]? = some kv→Pv i σ H→g (kV kv.1) σ H fun σ2 H2=>tb { D with nx:=Pv (i+1),ct:=Pv (i+1),bk:=D.nx } σ2 H2) (hd:∀ σ H,Pv kvs.length σ H→D.nx σ H) :
    ∃ W:Nat→Nat→St→Hp→Prop,(∃ m,W 0 m σ H)∧∀ i m σ H,W i m σ H →
      ((Itd a o kvs).stop i H∧D.nx σ H)∨((Itd a o kvs).go i H∧∃ N:St→Hp→Prop,(∀ σ' H',N σ' H'→∃ m',m' < m∧W (i+1) m' σ' H')∧∀ x H',(Itd a o kvs).yld i H x H'→g x σ H' fun σ2 H2=>tb { D with nx:=N,ct:=N,bk:=D.nx } σ2 H2):=by
  refine ⟨fun i m σ H=>m = kvs.length - i∧i≤kvs.length∧Pv i σ H,⟨kvs.length,by simp,Nat.zero_le _,h0⟩,?_⟩
  rintro i m σ H ⟨rfl,hi,p⟩
  have q:=hl i σ H hi p
  by_cases hlt:i < kvs.length
  · refine .inr ⟨⟨q,hlt⟩,Pv (i+1),fun σ' H' p'=>⟨kvs.length - (i+1),by omega,rfl,hlt,p'⟩,fun x H' y=>?_⟩
    obtain ⟨e,kv,y1,y2⟩:=y
    subst e y2
    exact hs i kv σ _ y1 p
  · have e:i = kvs.length:=by omega
    subst e
    exact .inl ⟨⟨q,Nat.le_refl _⟩,hd σ H p⟩
theorem comp_dict {a:Addr} {o:Obj} {kvs:List (Key×V)} {g:TG} {tc:TT} {te:TE} {σ0:St} {H:Hp} {Q:VK} (Pv:Addr→Nat→List V→Hp→Prop) (h0:∀ D,H D = none→Pv D 0 [] (upd H D (.lst [])))
    (hl:∀ D i ys H,i≤kvs.length→Pv D i ys H→H a = some (.frz o (.dK kvs))∧H D = some (.lst ys)∧(i < kvs.length→ys.length < sizeLine))
    (hs:∀ D i kv ys H,kvs[i]? = some kv→Pv D i ys H→g (kV kv.1) σ0 H fun σ4 H4=>ExtS σ0 σ4∧tc σ4 H4 fun b H5=>if b = true then te σ4 H5 fun y H6=>H6 D = some (.lst ys)∧Pv D (i+1) (ys++[y]) (upd H6 D (.lst (ys++[y]))) else Pv D (i+1) ys H5)
    (hd:∀ D ys H,Pv D kvs.length ys H→Q (.ref D) H):CompW (Itd a o kvs) g tc te σ0 H Q:=by
  intro D hD
  refine ⟨fun i m ys H=>m = kvs.length - i∧i≤kvs.length∧Pv D i ys H,⟨kvs.length,by simp,Nat.zero_le _,h0 D hD⟩,?_⟩
  rintro i m ys H2 ⟨rfl,hi,p⟩
  obtain ⟨sq,e,lt⟩:=hl D i ys H2 hi p
  refine ⟨e,?_⟩
  by_cases hlt:i < kvs.length
  · refine .inr ⟨⟨sq,hlt⟩,lt hlt,fun ys' H'=>Pv D (i+1) ys' H',fun ys' H' p'=>⟨kvs.length - (i+1),by omega,rfl,hlt,p'⟩,fun x H3 y=>?_⟩
    obtain ⟨e1,kv,e2,e3⟩:=y
    subst e1 e3
    exact hs D i kv ys _ e2 p
  · have z:i = kvs.length:=by omega
    subst z
    exact .inl ⟨⟨sq,Nat.le_refl _⟩,hd D ys H2 p⟩
end L2

namespace PySem
namespace F
theorem lk_list_keys:typeLookup (.type "list") "keys" = pure none:=by rw [typeLookup_type,builtinLookup_eq_fast]; kernel_rfl
theorem lk_list_getattr:typeLookup (.type "list") "__getattr__" = pure none:=by rw [typeLookup_type,builtinLookup_eq_fast]; kernel_rfl
theorem entry_dict_update_loop:entryFor table "dict.update.loop" = some Builtin.«dict.update.loop»:=entryFor_of_tree (by kernel_rfl)
theorem plain_dict_update_loop:plainId "dict.update.loop" = true:=by decide +kernel
theorem sub_attr_attr:isSubtype (.type "AttributeError") (.type "AttributeError") = pure true:=by rw [isSubtype_type]; kernel_rfl
end F
section
variable {prog:Program} {w:World} {A:Around} {E:Value→Shared→Prop} {s:Shared} {a:Addr}
theorem lacks_both {e:Addr} {vs:Array Value} {Q:Bool→Shared→Prop} (he:s.heap.get? e = some { cls:=.type "AttributeError",data:=.fields vs }) (v6:vs[6]? = some (rawInt 0)) (v7:vs[7]? = some (rawInt 0)) (hQ:Q true s) :
    wpAny (model prog w) A (lacksNameAndObj (.ref e)) Q E s:=by
  unfold lacksNameAndObj
  refine wpAny_bind (wpAny_isInstance (T:="AttributeError") ⟨_,he,rfl⟩ F.sub_attr_attr ?_)
  show wpAny _ _ (load e >>= _) _ _ _
  obtain ⟨hp,g,d,t,os⟩:=s
  repeat (any_goals (first | assumption | wp_step))
  simp only [v6,v7]
  rw [if_neg (by decide),if_neg (by decide)]
  exact wpAny_pure hQ
theorem note_both {e:Addr} {vs:Array Value} {o name:Value} {Q:Unit→Shared→Prop} (he:s.heap.get? e = some { cls:=.type "AttributeError",data:=.fields vs }) (v6:vs[6]? = some (rawInt 0)) (v7:vs[7]? = some (rawInt 0))
    (hQ:Q () { s with heap:=s.heap.update e (Obj.mapFields fun vs=>vs.extract 0 6++#[name,o]) }):wpAny (model prog w) A (noteAttr (.ref e) o name) Q E s:=by
  unfold noteAttr
  refine wpAny_bind (lacks_both he v6 v7 ?_)
  rw [if_pos rfl]
  refine wpAny_bind (wpAny_rule ?_)
  refine wpAny_bind (wpAny_typeOf (T:="AttributeError") ⟨_,he,rfl⟩ ?_)
  show wpAny _ _ (layMembers e 6 #[name,o]) _ _ _
  unfold layMembers
  refine wpAny_bind (wpAny_load he ?_)
  exact wpAny_update he hQ
theorem raise_attr {α:Type} {o:Value} {name msg:Str} {Q:α→Shared→Prop} (hh:A.handled = none) (hm:msg.length≤sizeLine) (hn:name.length≤sizeLine)
    (hq:∀ e h' t',(∀ b ob,s.heap.get? b = some ob→h'.get? b = some ob)→(Shared.TypeIs { s with heap:=h',toks:=t' } (.ref e) "AttributeError")→E (.ref e) { s with heap:=h',toks:=t' }) :
    wpAny (model prog w) A (raiseAttrError o name msg:Sem α) Q E s:=by
  unfold raiseAttrError
  refine wpAny_bind (wpAny_mkStr ?_ hm)
  refine wpAny_bind ?_
  simp only [newExc,newTuple]
  refine wpAny_bind (wpAny_newObj_type ?_ (by size_fits))
  refine wpAny_bind (m:=firstArgMember _ _) (wpAny_of_eq (a:=Value.none) (by first | rfl | (simp only [firstArgMember]; rfl)) ?_)
  refine wpAny_newObj_type ?_ (by size_fits)
  refine wpAny_bind (wpAny_mkText ?_)
  have he:((s.heap.push { cls:=.type "tuple",data:=.seq #[.str msg s.toks] }).push { cls:=.type "AttributeError",data:=.fields (#[.ref s.heap.objs.size,.none,.none,.none,.bool false,.none]++ownMembersOf (.type "AttributeError") [.str msg s.toks]) }).get? (s.heap.push { cls:=.type "tuple",data:=.seq #[.str msg s.toks] }).objs.size = some _:=Heap.get?_push_size _ rfl
  refine wpAny_bind (note_both he rfl rfl ?_)
  refine wpAny_raiseNew_none hh ?_
  refine hq _ _ _ (fun b ob e=>?_) ⟨_,Heap.get?_update_self _ he rfl,rfl⟩
  have h1:=Heap.get?_push_of_some { cls:=.type "tuple",data:=.seq #[.str msg s.toks] } e
  have h2:=Heap.get?_push_of_some { cls:=.type "AttributeError",data:=.fields (#[.ref s.heap.objs.size,.none,.none,.none,.bool false,.none]++ownMembersOf (.type "AttributeError") [.str msg s.toks]) } h1
  have ne:b≠(s.heap.push { cls:=.type "tuple",data:=.seq #[.str msg s.toks] }).objs.size:=Nat.ne_of_lt (Heap.lt_size h1)
  exact ((Heap.SameBut.update ..).2 b ne).trans h2
set_option maxHeartbeats 2000000 in
theorem keys_entry {h:Heap} {g:Array GenState} {d:Drawn} {t:Nat} {os:OsState} {its:Array Value} {n:Nat} {tk:Tok} {Q:Fin→Shared→Prop} (hh:A.handled = none) (hx:h.get? a = some { cls:=.type "list",data:=.seq its n })
    (hq:∀ e h' t',(∀ b ob,h.get? b = some ob→h'.get? b = some ob)→(Shared.TypeIs ⟨h',g,d,t',os⟩ (.ref e) "AttributeError")→E (.ref e) ⟨h',g,d,t',os⟩) :
    wpAny (model prog w) A (Builtin.«object.__getattribute__» ⟨[.ref a,.str "keys" tk],[]⟩) Q E ⟨h,g,d,t,os⟩:=by
  have hT:(⟨h,g,d,t,os⟩:Shared).TypeIs (.ref a) "list":=⟨_,hx,rfl⟩
  have f4:=F.lk_list_keys
  unfold Builtin.«object.__getattribute__»
  repeat (any_goals (first | assumption | wp_step))
  exact raise_attr hh (by decide +kernel) (by decide +kernel) hq
theorem keys_call {R:Result→Shared→Prop} {h:Heap} {g:Array GenState} {d:Drawn} {t:Nat} {os:OsState} {its:Array Value} {n:Nat} {tk:Tok} (hh:A.handled = none) (hx:h.get? a = some { cls:=.type "list",data:=.seq its n })
    (hq:∀ e h' t',(∀ b ob,h.get? b = some ob→h'.get? b = some ob)→(Shared.TypeIs ⟨h',g,d,t',os⟩ (.ref e) "AttributeError")→R (.error (.ref e)) ⟨h',g,d,t',os⟩) :
    codeAny (model prog w) A (.call (.builtin "list.__getattribute__") ⟨[.ref a,.str "keys" tk],[]⟩) R ⟨h,g,d,t,os⟩ :=
  codeAny_call_builtin F.slot_list_getattribute.plain F.entry_list_ga (F.slot_list_getattribute.check _ _ _ _ _ _ _ _ (show (⟨h,g,d,t,os⟩:Shared).TypeIs (.ref a) "list" from ⟨_,hx,rfl⟩) (F.args_list_getattribute_2 _ _) (keys_entry (by simpa using hh) hx hq))
set_option maxHeartbeats 2000000 in
theorem keys_attr {Q:Option Value→Shared→Prop} {h:Heap} {g:Array GenState} {d:Drawn} {t:Nat} {os:OsState} {its:Array Value} {n:Nat} (hh:A.handled = none) (hx:h.get? a = some { cls:=.type "list",data:=.seq its n })
    (hq:∀ h' t',(∀ b ob,h.get? b = some ob→h'.get? b = some ob)→Q none ⟨h',g,d,t',os⟩):wpAny (model prog w) A (getAttr? (.ref a) "keys") Q E ⟨h,g,d,t,os⟩:=by
  have hT:(⟨h,g,d,t,os⟩:Shared).TypeIs (.ref a) "list":=⟨_,hx,rfl⟩
  have f2:=F.slot_list_getattribute.lookup
  have f3:=F.slot_list_getattribute.bind (.ref a)
  unfold getAttr? getAttrBy?
  repeat (any_goals (first | assumption | wp_step))
  refine keys_call hh hx fun e h' t' kp ty=>?_
  show wpAny _ A (getattributeRaised (.ref a) (.str "keys" t) (.type "list") (.ref e) none false false) _ _ _
  unfold getattributeRaised
  refine wpAny_bind (wpAny_isInstance ty F.sub_attr_attr ?_)
  rw [if_pos rfl]
  refine wpAny_bind (wpAny_of_eq (show hookBehind (.type "list") none = pure none from F.lk_list_getattr) ?_)
  show wpAny _ A (attributeErrorLeaves (.ref a) (.str "keys" t) (.ref e) false false) _ _ _
  unfold attributeErrorLeaves
  dsimp only
  rw [if_pos (show (!false) = true from rfl)]
  refine wpAny_bind (wpAny_throw ?_)
  show wpAny _ A (isInstance (.ref e) (.type "AttributeError") >>= _) _ _ _
  refine wpAny_bind (wpAny_isInstance ty F.sub_attr_attr ?_)
  rw [if_pos rfl]
  exact wpAny_pure (hq h' t' kp)
end
end PySem

namespace L2
open PySem PySem.Spec PyProof.Rows
section
variable {prog:Program} {w:World} {A:Around} {R:Result→Shared→Prop}
theorem pairs_loop {I d l:Addr} {items:Array Value} {ps:List Addr} {more:List (Key×Value)} (hh:A.in1.handled = none) (hlI:l≠I) (hdI:d≠I) (hdl:d≠l) (hi:items.toList = ps.map Value.ref) (hp:∀ p∈ps,p≠I∧p≠d) (hlen:ps.length = more.length) (hz:more.length≤1000) :
    ∀ (k i:Nat) (s:Shared) (c:Int),items.size - i = k→i≤items.size→s.heap.IsListIter I l i→s.heap.IsList l items→s.heap.DictOf (mixKind prog w) d (merged [] (more.take i)) →
      (∀ (j:Nat) (p:Addr) (kv:Key×Value),ps[j]? = some p→more[j]? = some kv→∃ key,(mixKind prog w).is kv.1 key = true∧s.heap.IsTuple p #[key,kv.2]) →
      (∀ h' tk,h'.DictOf (mixKind prog w) d (merged [] more)→(∀ b o,b≠d→b≠I→s.heap.get? b = some o→h'.get? b = some o)→R (.ok (.ret .none)) { s with heap:=h',toks:=tk }) →
      codeAny (model prog w) A (.builtin "dict.update.loop" ⟨[.ref d,.ref I,rawInt c,.none],[]⟩) R s:=by
  have hsz:items.size = ps.length:=by rw [← Array.length_toList,hi,List.length_map]
  intro k
  induction k with
  | zero =>
    intro i s c hk hi' hit hl D hT hR
    have e:i = items.size:=by omega
    subst e
    refine codeAny_builtin PySem.F.entry_dict_update_loop ?_
    rw [Around.under_plainId PySem.F.plain_dict_update_loop _]
    show wpAny _ A.in1 (pyNext (.ref I) >>= _) _ _ s
    refine wpAny_bind (wpAny_pyNext_list_end hh hit hl (by simp) fun h' he'=>?_)
    show wpAny _ A.in1 (ret Value.none) _ _ _
    refine wpAny_pure (hR h' s.toks ?_ fun b o hb hbI e=>he' b o hbI e)
    rw [hsz,hlen,List.take_length] at D
    obtain ⟨o,es,ep,ho,r⟩:=D
    exact ⟨o,es,ep,he' d o hdI ho,r⟩
  | succ k ih =>
    intro i s c hk hi' hit hl D hT hR
    have hlt:i < items.size:=by omega
    have hps:i < ps.length:=by omega
    have hmo:i < more.length:=by omega
    refine codeAny_builtin PySem.F.entry_dict_update_loop ?_
    rw [Around.under_plainId PySem.F.plain_dict_update_loop _]
    show wpAny _ A.in1 (pyNext (.ref I) >>= _) _ _ s
    have ei:items[i]? = some (.ref ps[i]):=by
      rw [← Array.getElem?_toList,hi,List.getElem?_map,List.getElem?_eq_getElem hps]
      rfl
    refine wpAny_bind (wpAny_pyNext_list_item hit hl (x:=.ref ps[i]) ei fun h' hit' hs'=>?_)
    obtain ⟨pI,pd⟩:=hp ps[i] (List.getElem_mem hps)
    obtain ⟨key,kis,tp⟩:=hT i ps[i] more[i] (List.getElem?_eq_getElem hps) (List.getElem?_eq_getElem hmo)
    have tp':h'.IsTuple ps[i] #[key,more[i].2]:=by
      obtain ⟨o,e,r⟩:=tp
      exact ⟨o,hs'.extBut _ o pI e,r⟩
    have D':h'.DictOf (mixKind prog w) d (merged [] (more.take i)):=by
      obtain ⟨o,es,ep,ho,r⟩:=D
      exact ⟨o,es,ep,hs'.extBut d o hdI ho,r⟩
    show wpAny _ A.in1 (holding [Value.ref ps[i]] _ >>= _) _ _ _
    refine wpAny_bind (wpAny_holding ?_)
    refine wpAny_bind (m:=(Builtin.Dict.pairItems (.ref ps[i])).tryCatch _) ?_
    refine wpAny_tryCatch ?_
    unfold Builtin.Dict.pairItems
    refine wpAny_bind (wpAny_typeOf (T:="tuple") (by obtain ⟨o,e,c,_⟩:=tp'; exact ⟨o,e,c⟩) ?_)
    rw [if_pos (by decide)]
    refine wpAny_bind ?_
    obtain ⟨ot,et,ct,nt,dt⟩:=id tp'
    refine wpAny_seqItems et dt (wpAny_pure ?_)
    show wpAny _ A.in1 (holding [key,more[i].2] (dictSet d key more[i].2)) _ _ _
    refine wpAny_holding ?_
    unfold dictSet
    refine wpAny_holding (wpAny_bind ((mixKind prog w).pyHash (k:=more[i].1) kis ?_))
    have hle:=merged_length_le ([]:List (Key×Value)) (more.take i)
    rw [List.length_take] at hle
    simp only [List.length_nil] at hle
    refine wpAny_dictSetHashed_pairs kis D' (fun h2 D2 sb=>?_) (Nat.le_trans (show (merged [] (more.take i)).length≤1000 by omega) (by decide))
    rw [← merged_take_succ [] more i more[i] (List.getElem?_eq_getElem hmo)] at D2
    refine wpAny_pure ⟨plainId_quiet PySem.F.plain_dict_update_loop _,ih (i+1) _ (c+1) (by omega) (by assumption) ?_ ?_ D2 (fun j p kv ej em=>?_) fun h3 tk D3 kp3=>?_⟩
    · exact hit'.at fun o e=>(sb.2 I (Ne.symm hdI)).trans e
    · have z:h'.IsList l items:=hl.at fun o e=>hs'.extBut l o hlI e
      exact z.at fun o e=>(sb.2 l (Ne.symm hdl)).trans e
    · obtain ⟨key2,k1,o,e,r⟩:=hT j p kv ej em
      obtain ⟨q1,q2⟩:=hp p (List.mem_of_getElem? ej)
      exact ⟨key2,k1,o,(sb.2 p q2).trans (hs'.extBut _ o q1 e),r⟩
    · exact hR h3 tk D3 fun b o hb hbI e=>kp3 b o hb hbI ((sb.2 b hb).trans (hs'.extBut b o hbI e))
end
section
variable {prog:Program} {w:World} {A:Around} {E:Value→Shared→Prop} {s:Shared}
theorem dict_of_pairs {l:Addr} {its:List Value} {n:Nat} {ps:List Addr} {more:List (Key×Value)} {Q:Value→Shared→Prop} (hh:A.handled = none) (hl:s.heap.get? l = some { cls:=.type "list",data:=.seq its.toArray n }) (hi:its = ps.map Value.ref) (hlen:ps.length = more.length) (hz:more.length≤1000)
    (hT:∀ (j:Nat) (p:Addr) (kv:Key×Value),ps[j]? = some p→more[j]? = some kv→∃ key,(mixKind prog w).is kv.1 key = true∧s.heap.IsTuple p #[key,kv.2])
    (h:∀ h' tk,h'.DictOf (mixKind prog w) s.heap.objs.size (merged [] more)→(∀ b o,s.heap.get? b = some o→h'.get? b = some o)→Q (.ref s.heap.objs.size) { s with heap:=h',toks:=tk }) :
    wpAny (model prog w) A (call (.type "dict") [.ref l]) Q E s:=by
  refine callType_codes (Q₁:=fun obj s₁=>obj = .ref s.heap.objs.size∧s₁ = { s with heap:=s.heap.push { cls:=.type "dict",data:=.dict #[] } }) PySem.F.kt_called_dict (PySem.F.kt_typeCall_dict_1 _) PySem.F.entry_dict_init (kt_code_dict_new _ ⟨rfl,rfl⟩) ?_
  rintro obj s₁ ⟨rfl,rfl⟩
  have hnew:(s.heap.push { cls:=.type "dict",data:=.dict #[] }).DictOf (mixKind prog w) s.heap.objs.size []:=Heap.DictOf.new s.heap
  have hl1:(s.heap.push { cls:=.type "dict",data:=.dict #[] }).get? l = some { cls:=.type "list",data:=.seq its.toArray n }:=Heap.get?_push_of_some _ hl
  refine ⟨hnew.typeIs,PySem.F.args_dict_init_2 _ _,?_⟩
  unfold Builtin.«dict.__init__»
  refine wpAny_bind ?_
  unfold Builtin.Dict.selfAndRest
  refine wpAny_bind (wpAny_notOrdered_dict hnew.typeIs ?_)
  show wpAny _ _ (pure (s.heap.objs.size,[Value.ref l])) _ _ _
  refine wpAny_pure ?_
  show wpAny _ _ (Builtin.Dict.updateFrom "dict.__init__" s.heap.objs.size (.ref l) [] .none) _ _ _
  unfold Builtin.Dict.updateFrom
  refine wpAny_bind (wpAny_typeOf (T:="list") ⟨_,hl1,rfl⟩ ?_)
  rw [if_pos (by decide)]
  refine wpAny_bind ?_
  refine keys_attr (by simpa using hh) hl1 fun h2 t2 kp2=>?_
  rw [if_pos (show (none:Option Value).isNone = true from rfl)]
  refine wpAny_bind (wpAny_rule ?_)
  have hl2:h2.get? l = some { cls:=.type "list",data:=.seq its.toArray n }:=kp2 _ _ hl1
  have isl:h2.IsList l its.toArray:=⟨_,hl2,rfl,n,rfl⟩
  have szd:s.heap.objs.size < h2.objs.size:=by
    obtain ⟨o,es,ep,ho,_⟩:=hnew
    exact Heap.lt_size (kp2 _ _ ho)
  have lts:l < s.heap.objs.size:=Heap.lt_size hl
  have up:∀ b o,h2.get? b = some o→(h2.push { cls:=.type "list_iterator",data:=.fields #[.ref l,.int 0 0] }).get? b = some o:=fun b o e=>Heap.get?_push_of_some _ e
  refine wpAny_bind (wpAny_pyIter_list isl ?_)
  refine wpAny_pure ⟨plainId_quiet PySem.F.plain_dict_update_loop _,?_⟩
  refine pairs_loop (I:=h2.objs.size) (d:=s.heap.objs.size) (l:=l) (items:=its.toArray) (ps:=ps) (more:=more) (by simpa using hh) (Nat.ne_of_lt (Nat.lt_trans lts szd)) (Nat.ne_of_lt szd) (Nat.ne_of_gt lts) (by rw [← hi]) (fun p hp=>?_) hlen hz its.toArray.size 0 _ 0 rfl (Nat.zero_le _) ?_ ?_ ?_ (fun j p kv ej em=>?_) fun h3 tk D3 kp3=>?_
  · obtain ⟨j,hj,e⟩:=List.mem_iff_getElem.mp hp
    obtain ⟨key,_,o,ho,_⟩:=hT j p more[j] (by rw [List.getElem?_eq_getElem hj,e]) (List.getElem?_eq_getElem (by omega))
    have:=Heap.lt_size ho
    exact ⟨Nat.ne_of_lt (Nat.lt_trans this szd),Nat.ne_of_lt this⟩
  · exact ⟨_,Heap.get?_push_size _ rfl,rfl,rfl⟩
  · exact isl.push _
  · obtain ⟨o,es,ep,ho,r⟩:=hnew
    exact ⟨o,es,ep,up _ _ (kp2 _ _ ho),r⟩
  · obtain ⟨key,k1,o,ho,r⟩:=hT j p kv ej em
    exact ⟨key,k1,o,up _ _ (kp2 _ _ (Heap.get?_push_of_some _ ho)),r⟩
  · refine ⟨rfl,h h3 tk D3 fun b o e=>?_⟩
    have hb:=Heap.lt_size e
    exact kp3 b o (Nat.ne_of_lt hb) (Nat.ne_of_lt (Nat.lt_trans hb szd)) (up _ _ (kp2 _ _ (Heap.get?_push_of_some _ e)))
end
section
variable {X:Cx}
theorem refs_vals:∀ {ps:List Addr} {us:List Value},Vals (ps.map V.ref) us→us = ps.map Value.ref
  | [],_,.nil=>rfl
  | p::ps,_,.cons r rs=>by
    cases r
    rw [refs_vals rs]
    rfl
def PairAt (H:Hp) (p:Addr) (kv:Key×V):Prop:=H p = some (.tup [kV kv.1,kv.2])
theorem pairs_more {pins:List (Addr×Obj)} {σ:St} {H:Hp} {s:Shared} (I:Inv X pins σ H s) {ps:List Addr} {kvs:List (Key×V)} (h:Paired (PairAt H) ps kvs):∃ more:List (Key×Value),KV kvs more∧ps.length = more.length ∧
    ∀ (j:Nat) (p:Addr) (kv:Key×Value),ps[j]? = some p→more[j]? = some kv→∃ key,(mixKind X.prog X.w).is kv.1 key = true∧s.heap.IsTuple p #[key,kv.2]:=by
  induction h with
  | nil=>exact ⟨[],.nil,rfl,fun j p kv e _=>by simp at e⟩
  | cons r rs ih =>
    rename_i p kv ps kvs
    obtain ⟨more,m1,m2,m3⟩:=ih
    obtain ⟨its,v,tp,_⟩:=I.tuple (SqT.of (show H p = some (.tup [kV kv.1,kv.2]) from r))
    cases v with
    | cons r1 v =>
      cases v with
      | cons r2 v =>
        cases v
        rename_i key val
        refine ⟨(kv.1,val)::more,.cons ⟨rfl,r2⟩ m1,by rw [List.length_cons,List.length_cons,m2],fun j q kw e1 e2=>?_⟩
        cases j with
        | zero =>
          simp only [List.getElem?_cons_zero,Option.some.injEq] at e1 e2
          subst e1 e2
          exact ⟨key,kV_is r1,tp⟩
        | succ j=>exact m3 j q kw (by simpa using e1) (by simpa using e2)
theorem call_dictP (hc:X.calm = true):CallR X (.type "dict") (fun xs H Q=>∃ (l:Addr) (ps:List Addr) (kvs:List (Key×V)),xs = [.ref l]∧H l = some (.lst (ps.map V.ref))∧Paired (PairAt H) ps kvs∧kvs.length≤1000∧∀ d,H d = none→Q (.ref d) (upd H d (.dK (mergeK [] kvs)))):=by
  intro pins s σ H xs us Q I r h
  obtain ⟨l,ps,kvs,rfl,hl,hp,hz,q⟩:=h
  obtain ⟨u,rfl,ru⟩:=vals1 r
  cases ru
  obtain ⟨z,its,n,rv,e⟩:=(show ObjOk X.prog X.w H s.heap l (.lst (ps.map V.ref)) from I.hok l _ hl)
  obtain ⟨more,m1,m2,m3⟩:=pairs_more I hp
  have lk:=KV.length m1
  refine dict_of_pairs (I.ok.hd hc) e (refs_vals rv) m2 (by omega) m3 fun h' tk D kp=>?_
  have mz:=length_mergeK kvs []
  simp only [List.length_nil] at mz
  exact ⟨.ref s.heap.objs.size,upd H s.heap.objs.size (.dK (mergeK [] kvs)),I.laid kp (Nat.le_refl _) ⟨Nat.le_trans (show (mergeK [] kvs).length≤1000 by omega) (by decide),beq_eq_false_iff_ne.mpr (Ne.symm (Nat.ne_of_lt I.big)),_,KV.merge m1 .nil,D⟩,rfl,q _ (I.hok.fresh (Nat.le_refl _))⟩
end
end L2

namespace L2
open PySem PySem.Spec PyProof.Rows
section
variable {X:Cx}
theorem call_range1:CallR X (.type "range") (fun xs H Q=>∃ j:Int,xs = [.int j]∧∀ p,H p = none→Q (.ref p) (upd H p (.rng 0 j))):=by
  intro pins s σ H xs us Q I r h
  obtain ⟨j,rfl,q⟩:=h
  obtain ⟨u,rfl,ru⟩:=vals1 r
  obtain ⟨t,rfl⟩:=ru
  refine PySem.call_range_1 ?_
  have hf:=I.hok.fresh (Nat.le_refl s.heap.objs.size)
  exact ⟨.ref s.heap.objs.size,upd H s.heap.objs.size (.rng 0 j),I.laid (fun _ _ e=>Heap.get?_push_of_some _ e) (Nat.le_refl _) ⟨_,_,_,Heap.get?_push_size _ rfl⟩,rfl,q _ hf⟩
end
end L2

namespace L2
open PySem PySem.Spec PyProof.Rows
section
variable {X:Cx}
theorem call_dictD:CallR X (.type "dict") (fun xs H Q=>∃ (a:Addr) (kvs:List (Key×V)),xs = [.ref a]∧Rd H a (.dK kvs)∧∀ d,H d = none→Q (.ref d) (upd H d (.dK kvs))):=by
  intro pins s σ H xs us Q I r h
  obtain ⟨a,kvs,rfl,ha,q⟩:=h
  obtain ⟨u,rfl,ru⟩:=vals1 r
  cases ru
  obtain ⟨z,y,vs,rk,dd⟩:=dk_rd I.hok ha
  have lk:=KV.length rk
  refine kt_call_dict y dd (by rw [← lk]; exact z) fun h' hd' sb=>?_
  have kp:∀ b o,s.heap.get? b = some o→h'.get? b = some o:=fun b o e=>(sb.2 b (Nat.ne_of_lt (Heap.lt_size e))).trans (Heap.get?_push_of_some _ e)
  exact ⟨.ref s.heap.objs.size,upd H s.heap.objs.size (.dK kvs),I.laid (t':=s.toks) kp (Nat.le_refl _) ⟨z,beq_eq_false_iff_ne.mpr (Ne.symm (Nat.ne_of_lt I.big)),vs,rk,hd'⟩,rfl,q _ (I.hok.fresh (Nat.le_refl _))⟩
theorem mt_dupdate:MtR X "dict.update" (fun x vs H Q=>∃ (a b:Addr) (kvs more:List (Key×V)),x = .ref a∧vs = [.ref b]∧H a = some (.dK kvs)∧Rd H b (.dK more)∧a≠b∧kvs.length+more.length≤1000∧Q .non (upd H a (.dK (mergeK kvs more)))):=by
  intro pins s σ H x vs v us Q I rx rv h
  obtain ⟨a,b,kvs,more,rfl,rfl,ha,hb,hab,hz,q⟩:=h
  cases rx
  obtain ⟨u,rfl,ru⟩:=vals1 rv
  cases ru
  obtain ⟨za,ya,va,ra,da⟩:=dk_of I.hok ha
  obtain ⟨zb,yb,vb,rb,db⟩:=dk_rd I.hok hb
  have la:=KV.length ra
  have lb:=KV.length rb
  refine wpAny_call_entry PySem.F.slot_dict_update da.typeIs PySem.F.entry_dict_update ?_ (PySem.F.args_dict_update_2 _ _)
  unfold Builtin.«dict.update»
  refine wpAny_bind ?_
  unfold Builtin.Dict.selfAndRest
  refine wpAny_bind (wpAny_notOrdered_dict da.typeIs ?_)
  show wpAny _ _ (pure (a,[Value.ref b])) _ _ _
  refine wpAny_pure ?_
  show wpAny _ _ (Builtin.Dict.updateFrom "dict.update" a (.ref b) [] .none) _ _ _
  unfold Builtin.Dict.updateFrom
  refine wpAny_bind (wpAny_typeOf db.typeIs ?_)
  rw [if_neg (by decide)]
  refine wpAny_bind ?_
  unfold Builtin.Dict.merge
  refine wpAny_bind ?_
  unfold Builtin.Dict.readDirectly
  refine wpAny_bind (wpAny_isInstance db.typeIs isSubtype_dict_dict ?_)
  simp only [Bool.not_true,Bool.false_eq_true,if_false]
  refine wpAny_bind (wpAny_specialOf db.typeIs PySem.F.slot_dict_iter.lookup (wpAny_pure ?_))
  simp only [beq_self_eq_true,if_true]
  refine wpAny_bind (wpAny_pure ?_)
  refine wpAny_mergeDict (hsz:=Nat.le_trans (show va.length+vb.length≤1000 by omega) (by decide)) hab yb da db fun h' hd' _ sb=>?_
  show wpAny _ _ (Builtin.Dict.addKeywords a [] >>= _) _ _ _
  refine wpAny_bind (wpAny_pure ?_)
  refine wpAny_pure ⟨.none,rfl,.non,upd H a (.dK (mergeK kvs more)),?_,rfl,q⟩
  have mz:=length_mergeK more kvs
  have hd2:=hd'
  obtain ⟨o,es,ep,ho,_⟩:=hd2
  exact I.write (x:=a) (e:=a) (o:=.dK (mergeK kvs more)) (h':=h') (t':=s.toks) (by rw [ha]; trivial) (.inl rfl) (fun b u hb e=>(sb.2 b hb).trans e) ⟨o,ho⟩ ⟨Nat.le_trans (show (mergeK kvs more).length≤1000 by omega) (by decide),ya,_,KV.merge rb ra,hd'⟩
end
end L2

namespace L2
open PySem
theorem usS {p:List Value→Prop} {n:Nat} (us:List Value) (hl:us.length = n+1) (h:∀ a t,t.length = n→p (a::t)):p us :=
  let ⟨a,t,e⟩:=List.exists_cons_of_length_eq_add_one hl
  e▸h a t (Nat.succ.inj ((congrArg List.length e).symm.trans hl))
theorem us1 {p:List Value→Prop} (us:List Value) (hl:us.length = 1) (h:∀ a,p [a]):p us:=usS us hl fun a t ht=>(List.eq_nil_of_length_eq_zero ht)▸h a
theorem us2 {p:List Value→Prop} (us:List Value) (hl:us.length = 2) (h:∀ a b,p [a,b]):p us:=usS us hl fun a t ht=>us1 (p:=fun t=>p (a::t)) t ht (h a)
theorem us3 {p:List Value→Prop} (us:List Value) (hl:us.length = 3) (h:∀ a b c,p [a,b,c]):p us:=usS us hl fun a t ht=>us2 (p:=fun t=>p (a::t)) t ht (h a)
theorem us4 {p:List Value→Prop} (us:List Value) (hl:us.length = 4) (h:∀ a b c d,p [a,b,c,d]):p us:=usS us hl fun a t ht=>us3 (p:=fun t=>p (a::t)) t ht (h a)
theorem us5 {p:List Value→Prop} (us:List Value) (hl:us.length = 5) (h:∀ a b c d e,p [a,b,c,d,e]):p us:=usS us hl fun a t ht=>us4 (p:=fun t=>p (a::t)) t ht (h a)
theorem at_mk1 {K:PySem.W.Frag} {h:Heap} {mg:Str→Option Value} {x:Str} {st:Stmt} {ps:List Str} {f:Addr} {od an:Option Addr} {sl:Array (Option Value)} {oc kV dc pm cd ct:Value} (X:K.In h) (G:h.Ns mainGlobals mg)
    (hp:ps.length = 1) (b:∀ (kV doc pm:Value) (an:Option Addr) (cdv ct:Value) (u0:Value),bindArgs (PySem.W.fnOf x x (defArgs st) (defBody st) (defScope st) .none kV doc pm an cdv ct) ⟨[u0],[]⟩ = pure (ps.zip [u0]))
    (a:PySem.W.nsIn K mainGlobals x = some (some (.ref f))) (l:K.lookup f = some ⟨oc,od,.func (PySem.W.fnOf x x (defArgs st) (defBody st) (defScope st) .none kV dc pm an cd ct),sl⟩) (c:PySem.W.codeIn K cd x = true) (k:PySem.W.keepIn K (.ref f) = true) :
    ∃ f fd,At K mg x st ps f fd :=
  at_mk X G (fun kV doc pm an cdv ct us hl=>us1 (p:=fun us=>bindArgs (PySem.W.fnOf x x (defArgs st) (defBody st) (defScope st) .none kV doc pm an cdv ct) ⟨us,[]⟩ = pure (ps.zip us)) us (hl.trans hp) (b kV doc pm an cdv ct)) a l c k
theorem at_mk2 {K:PySem.W.Frag} {h:Heap} {mg:Str→Option Value} {x:Str} {st:Stmt} {ps:List Str} {f:Addr} {od an:Option Addr} {sl:Array (Option Value)} {oc kV dc pm cd ct:Value} (X:K.In h) (G:h.Ns mainGlobals mg)
    (hp:ps.length = 2) (b:∀ (kV doc pm:Value) (an:Option Addr) (cdv ct:Value) (u0 u1:Value),bindArgs (PySem.W.fnOf x x (defArgs st) (defBody st) (defScope st) .none kV doc pm an cdv ct) ⟨[u0,u1],[]⟩ = pure (ps.zip [u0,u1]))
    (a:PySem.W.nsIn K mainGlobals x = some (some (.ref f))) (l:K.lookup f = some ⟨oc,od,.func (PySem.W.fnOf x x (defArgs st) (defBody st) (defScope st) .none kV dc pm an cd ct),sl⟩) (c:PySem.W.codeIn K cd x = true) (k:PySem.W.keepIn K (.ref f) = true) :
    ∃ f fd,At K mg x st ps f fd :=
  at_mk X G (fun kV doc pm an cdv ct us hl=>us2 (p:=fun us=>bindArgs (PySem.W.fnOf x x (defArgs st) (defBody st) (defScope st) .none kV doc pm an cdv ct) ⟨us,[]⟩ = pure (ps.zip us)) us (hl.trans hp) (b kV doc pm an cdv ct)) a l c k
theorem at_mk3 {K:PySem.W.Frag} {h:Heap} {mg:Str→Option Value} {x:Str} {st:Stmt} {ps:List Str} {f:Addr} {od an:Option Addr} {sl:Array (Option Value)} {oc kV dc pm cd ct:Value} (X:K.In h) (G:h.Ns mainGlobals mg)
    (hp:ps.length = 3) (b:∀ (kV doc pm:Value) (an:Option Addr) (cdv ct:Value) (u0 u1 u2:Value),bindArgs (PySem.W.fnOf x x (defArgs st) (defBody st) (defScope st) .none kV doc pm an cdv ct) ⟨[u0,u1,u2],[]⟩ = pure (ps.zip [u0,u1,u2]))
    (a:PySem.W.nsIn K mainGlobals x = some (some (.ref f))) (l:K.lookup f = some ⟨oc,od,.func (PySem.W.fnOf x x (defArgs st) (defBody st) (defScope st) .none kV dc pm an cd ct),sl⟩) (c:PySem.W.codeIn K cd x = true) (k:PySem.W.keepIn K (.ref f) = true) :
    ∃ f fd,At K mg x st ps f fd :=
  at_mk X G (fun kV doc pm an cdv ct us hl=>us3 (p:=fun us=>bindArgs (PySem.W.fnOf x x (defArgs st) (defBody st) (defScope st) .none kV doc pm an cdv ct) ⟨us,[]⟩ = pure (ps.zip us)) us (hl.trans hp) (b kV doc pm an cdv ct)) a l c k
theorem at_mk4 {K:PySem.W.Frag} {h:Heap} {mg:Str→Option Value} {x:Str} {st:Stmt} {ps:List Str} {f:Addr} {od an:Option Addr} {sl:Array (Option Value)} {oc kV dc pm cd ct:Value} (X:K.In h) (G:h.Ns mainGlobals mg)
    (hp:ps.length = 4) (b:∀ (kV doc pm:Value) (an:Option Addr) (cdv ct:Value) (u0 u1 u2 u3:Value),bindArgs (PySem.W.fnOf x x (defArgs st) (defBody st) (defScope st) .none kV doc pm an cdv ct) ⟨[u0,u1,u2,u3],[]⟩ = pure (ps.zip [u0,u1,u2,u3]))
    (a:PySem.W.nsIn K mainGlobals x = some (some (.ref f))) (l:K.lookup f = some ⟨oc,od,.func (PySem.W.fnOf x x (defArgs st) (defBody st) (defScope st) .none kV dc pm an cd ct),sl⟩) (c:PySem.W.codeIn K cd x = true) (k:PySem.W.keepIn K (.ref f) = true) :
    ∃ f fd,At K mg x st ps f fd :=
  at_mk X G (fun kV doc pm an cdv ct us hl=>us4 (p:=fun us=>bindArgs (PySem.W.fnOf x x (defArgs st) (defBody st) (defScope st) .none kV doc pm an cdv ct) ⟨us,[]⟩ = pure (ps.zip us)) us (hl.trans hp) (b kV doc pm an cdv ct)) a l c k
theorem at_mk5 {K:PySem.W.Frag} {h:Heap} {mg:Str→Option Value} {x:Str} {st:Stmt} {ps:List Str} {f:Addr} {od an:Option Addr} {sl:Array (Option Value)} {oc kV dc pm cd ct:Value} (X:K.In h) (G:h.Ns mainGlobals mg)
    (hp:ps.length = 5) (b:∀ (kV doc pm:Value) (an:Option Addr) (cdv ct:Value) (u0 u1 u2 u3 u4:Value),bindArgs (PySem.W.fnOf x x (defArgs st) (defBody st) (defScope st) .none kV doc pm an cdv ct) ⟨[u0,u1,u2,u3,u4],[]⟩ = pure (ps.zip [u0,u1,u2,u3,u4]))
    (a:PySem.W.nsIn K mainGlobals x = some (some (.ref f))) (l:K.lookup f = some ⟨oc,od,.func (PySem.W.fnOf x x (defArgs st) (defBody st) (defScope st) .none kV dc pm an cd ct),sl⟩) (c:PySem.W.codeIn K cd x = true) (k:PySem.W.keepIn K (.ref f) = true) :
    ∃ f fd,At K mg x st ps f fd :=
  at_mk X G (fun kV doc pm an cdv ct us hl=>us5 (p:=fun us=>bindArgs (PySem.W.fnOf x x (defArgs st) (defBody st) (defScope st) .none kV doc pm an cdv ct) ⟨us,[]⟩ = pure (ps.zip us)) us (hl.trans hp) (b kV doc pm an cdv ct)) a l c k
end L2

namespace L2
open PySem
section
variable {CX:CXT} {P:Program} {w:World} {K:PySem.W.Frag} {mg:Str→Option Value} {base:Heap} {N:List Str} {q:Str} {sc:Scope} {f:Addr} {cd:Value} {A:Around} {outer:List Env} {s:Shared} {H:Hp} {E:XK}
theorem nxK:(cxOf CX P w K mg base N q sc f cd A outer s H E).nox.K = K:=rfl
theorem nxP:(cxOf CX P w K mg base N q sc f cd A outer s H E).nox.prog = P:=rfl
theorem nxW:(cxOf CX P w K mg base N q sc f cd A outer s H E).nox.w = w:=rfl
end
theorem seqK {t u:TS} {D:Ends} {σ:St} {H:Hp} (h:∀ k:St→Hp→Prop,(∀ σ' H',u D σ' H'→k σ' H')→t { D with nx:=k } σ H):tSeq t u D σ H:=h (u D) fun _ _ z=>z
universe u1 u2 u3 u4 u5 u6 u7 u8 u9 u10 u11 u12
theorem xr0 {α:Sort u1} {p q:α→Prop} {a:α} (h:p a) (r:q a):∃ x,p x∧q x:=⟨a,h,r⟩
theorem xr2 {α:Sort u1} {β:Sort u2} {p:α→Prop} {q:β→Prop} {r:α→β→Prop} {a:α} {b:β} (h1:p a) (h2:q b) (h3:r a b):∃ x y,p x∧q y∧r x y:=⟨a,b,h1,h2,h3⟩
theorem xn2 {α1:Sort u1} {α2:Sort u2} {p:α1→α2→Prop} (a:α1) (b:α2) (h:p a b):∃ a b,p a b:=⟨a,b,h⟩
theorem xn3 {α1:Sort u1} {α2:Sort u2} {α3:Sort u3} {p:α1→α2→α3→Prop} (a:α1) (b:α2) (c:α3) (h:p a b c):∃ a b c,p a b c:=⟨a,b,c,h⟩
theorem xn4 {α1:Sort u1} {α2:Sort u2} {α3:Sort u3} {α4:Sort u4} {p:α1→α2→α3→α4→Prop} (a:α1) (b:α2) (c:α3) (d:α4) (h:p a b c d):∃ a b c d,p a b c d:=⟨a,b,c,d,h⟩
theorem xn5 {α1:Sort u1} {α2:Sort u2} {α3:Sort u3} {α4:Sort u4} {α5:Sort u5} {p:α1→α2→α3→α4→α5→Prop} (a:α1) (b:α2) (c:α3) (d:α4) (e:α5) (h:p a b c d e):∃ a b c d e,p a b c d e:=⟨a,b,c,d,e,h⟩
theorem xn6 {α1:Sort u1} {α2:Sort u2} {α3:Sort u3} {α4:Sort u4} {α5:Sort u5} {α6:Sort u6} {p:α1→α2→α3→α4→α5→α6→Prop} (a:α1) (b:α2) (c:α3) (d:α4) (e:α5) (f:α6) (h:p a b c d e f):∃ a b c d e f,p a b c d e f:=⟨a,b,c,d,e,f,h⟩
theorem xn7 {α1:Sort u1} {α2:Sort u2} {α3:Sort u3} {α4:Sort u4} {α5:Sort u5} {α6:Sort u6} {α7:Sort u7} {p:α1→α2→α3→α4→α5→α6→α7→Prop} (a:α1) (b:α2) (c:α3) (d:α4) (e:α5) (f:α6) (g:α7) (h:p a b c d e f g):∃ a b c d e f g,p a b c d e f g:=⟨a,b,c,d,e,f,g,h⟩
theorem xn8 {α1:Sort u1} {α2:Sort u2} {α3:Sort u3} {α4:Sort u4} {α5:Sort u5} {α6:Sort u6} {α7:Sort u7} {α8:Sort u8} {p:α1→α2→α3→α4→α5→α6→α7→α8→Prop} (a:α1) (b:α2) (c:α3) (d:α4) (e:α5) (f:α6) (g:α7) (i:α8) (h:p a b c d e f g i):∃ a b c d e f g i,p a b c d e f g i:=⟨a,b,c,d,e,f,g,i,h⟩
theorem xe2 {α1:Sort u1} {α2:Sort u2} {p:α1→α2→Prop} {z:Prop} (h:∃ a b,p a b) (k:∀ a b,p a b→z):z:=h.elim fun a y1=>y1.elim fun b y2=>k a b y2
theorem xe3 {α1:Sort u1} {α2:Sort u2} {α3:Sort u3} {p:α1→α2→α3→Prop} {z:Prop} (h:∃ a b c,p a b c) (k:∀ a b c,p a b c→z):z:=h.elim fun a y1=>y1.elim fun b y2=>y2.elim fun c y3=>k a b c y3
theorem xe4 {α1:Sort u1} {α2:Sort u2} {α3:Sort u3} {α4:Sort u4} {p:α1→α2→α3→α4→Prop} {z:Prop} (h:∃ a b c d,p a b c d) (k:∀ a b c d,p a b c d→z):z:=h.elim fun a y1=>y1.elim fun b y2=>y2.elim fun c y3=>y3.elim fun d y4=>k a b c d y4
theorem xe5 {α1:Sort u1} {α2:Sort u2} {α3:Sort u3} {α4:Sort u4} {α5:Sort u5} {p:α1→α2→α3→α4→α5→Prop} {z:Prop} (h:∃ a b c d e,p a b c d e) (k:∀ a b c d e,p a b c d e→z):z:=h.elim fun a y1=>y1.elim fun b y2=>y2.elim fun c y3=>y3.elim fun d y4=>y4.elim fun e y5=>k a b c d e y5
theorem xe6 {α1:Sort u1} {α2:Sort u2} {α3:Sort u3} {α4:Sort u4} {α5:Sort u5} {α6:Sort u6} {p:α1→α2→α3→α4→α5→α6→Prop} {z:Prop} (h:∃ a b c d e f,p a b c d e f) (k:∀ a b c d e f,p a b c d e f→z):z:=h.elim fun a y1=>y1.elim fun b y2=>y2.elim fun c y3=>y3.elim fun d y4=>y4.elim fun e y5=>y5.elim fun f y6=>k a b c d e f y6
theorem xe7 {α1:Sort u1} {α2:Sort u2} {α3:Sort u3} {α4:Sort u4} {α5:Sort u5} {α6:Sort u6} {α7:Sort u7} {p:α1→α2→α3→α4→α5→α6→α7→Prop} {z:Prop} (h:∃ a b c d e f g,p a b c d e f g) (k:∀ a b c d e f g,p a b c d e f g→z):z:=h.elim fun a y1=>y1.elim fun b y2=>y2.elim fun c y3=>y3.elim fun d y4=>y4.elim fun e y5=>y5.elim fun f y6=>y6.elim fun g y7=>k a b c d e f g y7
theorem xe8 {α1:Sort u1} {α2:Sort u2} {α3:Sort u3} {α4:Sort u4} {α5:Sort u5} {α6:Sort u6} {α7:Sort u7} {α8:Sort u8} {p:α1→α2→α3→α4→α5→α6→α7→α8→Prop} {z:Prop} (h:∃ a b c d e f g h,p a b c d e f g h) (k:∀ a b c d e f g h,p a b c d e f g h→z):z:=h.elim fun a y1=>y1.elim fun b y2=>y2.elim fun c y3=>y3.elim fun d y4=>y4.elim fun e y5=>y5.elim fun f y6=>y6.elim fun g y7=>y7.elim fun h y8=>k a b c d e f g h y8
end L2

namespace Law
open PySem L2
def top (i:Nat):Stmt:=PySem.Challenge.pw_everduel_k21_lists_told.main.body.getD i (.Pass ⟨0,0,0,0⟩)
abbrev sWithin:Stmt:=top 35
abbrev sTrueAt:Stmt:=top 37
abbrev sHolding:Stmt:=top 38
abbrev sLedOn:Stmt:=top 39
abbrev sByItself:Stmt:=top 40
abbrev sClosed:Stmt:=top 41
abbrev sHallOf:Stmt:=top 42
abbrev sNumbered:Stmt:=top 43
abbrev sWaysFrom:Stmt:=top 44
abbrev sEnd:Stmt:=top 45
abbrev sHandOf:Stmt:=top 46
abbrev sRankOf:Stmt:=top 47
abbrev sGreat:Stmt:=top 48
abbrev sCell:Stmt:=top 50
abbrev sNext:Stmt:=top 51
abbrev sLeaf:Stmt:=top 54
abbrev sSay:Stmt:=top 55
abbrev sWorld:Stmt:=top 56
abbrev sLaw:Stmt:=top 58
section
variable {P:Program} {w:World} {K:PySem.W.Frag} {mg:Str→Option Value} {base:Heap} {f g:Addr} {fd gd:FuncData}
def spCell (K:PySem.W.Frag):Sp:=fun vs H Q _=>∃ (a:Addr) (ns:List Int) (k:Nat),vs = [.ref a,.int (k:Int)]∧Scr K H a ns∧Q (.int (Mi.cell ns k)) H
theorem scCell:FnScope ["script","k"] ["script","k"] (defScope sCell):=⟨rfl,rfl,rfl,by decide +kernel,rfl,by decide +kernel,by decide +kernel⟩
theorem ok_cell (F:Fun K "_law_cell_at" "_law_cell_at" sCell f fd) (ml:mg "len" = none):FnOk P w K mg base CX0 1 f fd ["script","k"] (spCell K):=by
  refine F.ok scCell (fun vs H Q E h=>?_) (fun cdv A outer s H vs Q E hr h=>?_)
  · refine xe3 h fun a ns k y39=>?_
    obtain ⟨rfl,_⟩:=y39
    rfl
  refine xe3 h fun a ns k y41=>?_
  obtain ⟨rfl,hS,q⟩:=y41
  refine ⟨_,pss_cons (ps_if (pt_cmpR op_lt (pv 1) (pe_callB call_len_seq rfl ml PySem.boot_len (pa_cons (pv 0) pa_nil)) (nomark _)) (pss_one (ps_ret (pe_ix ix_list (pv 0) (pv 1) (fun _ _=>rfl)))) pss_nil) (pss_one (ps_ret pe_int)),?_⟩
  first | dsimp only [nxK,nxP,nxW] | skip
  refine (xr0 rfl (xr0 rfl (xn2 a _ ⟨rfl,.inl hS.sql,xr2 rfl rfl (xr0 rfl ?_)⟩)))
  refine ite2 (fun c=>?_) (fun c=>?_)
  · have c':(k:Int) < (((ns.map V.int).length:Nat):Int):=of_decide_eq_true c
    rw [List.length_map] at c'
    have hk:k < ns.length:=by omega
    refine (xr0 rfl (xr0 rfl (xn4 a _ _ _ ⟨rfl,rfl,hS.sql,atI_nat (v:=V.int ns[k]) (by rw [List.getElem?_map,List.getElem?_eq_getElem hk]; rfl),?_⟩)))
    have e:Mi.cell ns k = ns[k]:=by simp [Mi.cell,List.getD,List.getElem?_eq_getElem hk]
    rw [e] at q
    exact q
  · have c':¬ (k:Int) < (((ns.map V.int).length:Nat):Int):=of_decide_eq_false (Bool.eq_false_iff.mpr c)
    rw [List.length_map] at c'
    have e:Mi.cell ns k = 0:=by simp [Mi.cell,List.getD,List.getElem?_eq_none (show ns.length≤k by omega)]
    rw [e] at q
    exact q
def spNext (K:PySem.W.Frag):Sp:=fun vs H Q _=>∃ (a p:Addr) (ns:List Int) (k:Nat) (m:V),vs = [.ref a,.ref p]∧Scr K H a ns∧H p = some (.lst [.int (k:Int),m])∧Q (.int (Mi.cell ns k)) (upd H p (.lst [.int ((k+1:Nat):Int),m]))
theorem scNext:FnScope ["script","spot"] ["script","spot"] (defScope sNext):=⟨rfl,rfl,rfl,by decide +kernel,rfl,by decide +kernel,by decide +kernel⟩
theorem ok_next (F:Fun K "_law_next" "_law_next" sNext f fd) (G:FnOk P w K mg base CX0 1 g gd ["script","k"] (spCell K)) (bG:Binds K gd ["script","k"] []) (kG:PySem.W.keepIn K (.ref g) = true) (mG:mg "_law_cell_at" = some (.ref g)) :
    FnOk P w K mg base CX0 2 f fd ["script","spot"] (spNext K):=by
  refine F.ok scNext (fun vs H Q E h=>?_) (fun cdv A outer s H vs Q E hr h=>?_)
  · refine xe5 h fun a p ns k m y64=>?_
    obtain ⟨rfl,_⟩:=y64
    rfl
  refine xe5 h fun a p ns k m y66=>?_
  obtain ⟨rfl,hS,hp,q⟩:=y66
  refine ⟨_,pss_cons (ps_asg (pe_op op_add (pe_ix ix_list (pv 1) pe_int (fun _ _=>rfl)) pe_int) (pg_sub (pv 1) pe_int set_list))
    (pss_one (ps_ret (pe_call G hr rfl mG kG bG .nil pass0 (pa_cons (pv 0) (pa_cons (pe_op op_sub (pe_ix ix_list (pv 1) pe_int (fun _ _=>rfl)) pe_int) pa_nil))))),?_⟩
  first | dsimp only [nxK,nxP,nxW] | skip
  refine (xr0 rfl (xn4 _ _ _ _ ⟨rfl,rfl,SqL.of hp,(show atI [V.int (k:Int),m] 0 = some _ from rfl),_,_,rfl,rfl,xr0 rfl (xn4 p _ 0 0 ⟨rfl,rfl,hp,rfl,?_⟩)⟩))
  have h1:(upd H p (.lst ([V.int (k:Int),m].set 0 (V.int ((k:Int)+1))))) p = some (.lst [V.int ((k:Int)+1),m]):=upd_same
  refine (xr0 rfl (xr0 rfl (xn4 _ _ _ _ ⟨rfl,rfl,SqL.of h1,(show atI [V.int ((k:Int)+1),m] 0 = some _ from rfl),_,_,rfl,rfl,a,ns,k,?_,hS.keep hp samex_upd,?_⟩)))
  · show [V.ref a,V.int ((k:Int)+1 - 1)] = [V.ref a,V.int (k:Int)]
    rw [show (k:Int)+1 - 1 = (k:Int) by omega]
  · have e:V.int (((k+1:Nat)):Int) = V.int ((k:Int)+1):=by simp
    rw [e] at q
    exact q
end
end Law

namespace L2
open PySem PySem.Spec PyProof.Rows
def FlatEq (xs ys:List V) (r:Bool):Prop:=(xs.length≠ys.length∧r = false)∨∃ bs cs:List Bool,xs = bs.map V.bl∧ys = cs.map V.bl∧bs.length = cs.length∧r = decide (bs = cs)
theorem FlatEq.nil {xs:List V}:FlatEq xs [] (decide (xs = [])):=by
  by_cases h:xs = []
  · subst h
    exact .inr ⟨[],[],rfl,rfl,rfl,rfl⟩
  · exact .inl ⟨fun e=>h (List.eq_nil_of_length_eq_zero e),decide_eq_false h⟩
theorem all_getD (bs cs:List Bool) (h:bs.length = cs.length):((List.range bs.length).all fun j=>bs.getD j false == cs.getD j false) = decide (bs = cs):=by
  rw [Bool.eq_iff_iff,List.all_eq_true,decide_eq_true_eq]
  constructor
  · intro z
    refine List.ext_getElem h fun i h1 h2=>?_
    have:=z i (List.mem_range.mpr h1)
    rw [List.getD,List.getD,List.getElem?_eq_getElem h1,List.getElem?_eq_getElem h2] at this
    exact beq_iff_eq.mp this
  · rintro rfl i _
    exact beq_iff_eq.mpr rfl
section
variable {X:Cx}
theorem vals_bl {bs:List Bool} {its:List Value} (h:Vals (bs.map V.bl) its) {j:Nat} (hj:j < its.toArray.size):its.toArray[j] = .bool (bs.getD j false):=by
  have hj':j < its.length:=by simpa using hj
  have hl:j < bs.length:=by have:=h.length; rw [List.length_map] at this; omega
  obtain ⟨u,eu,r⟩:=h.get (i:=j) (x:=.bl (bs.getD j false)) (by rw [List.getElem?_map,List.getD,List.getElem?_eq_getElem hl]; rfl)
  rw [List.getElem?_eq_getElem hj'] at eu
  cases eu
  exact r
open PySem.SeqAt in
theorem op_neF (hu:X.A.units+30 < cLine):OpR X (compareOp .NotEq) (fun x y H Q=>∃ (a b:Addr) (xs ys:List V) (r:Bool),x = .ref a∧y = .ref b∧SqL X.K H a xs∧SqL X.K H b ys∧FlatEq xs ys r∧Q (.bl (!r)) H):=by
  intro pins s σ H x y v u Q I rx ry h
  obtain ⟨a,b,xs,ys,r,rfl,rfl,h1,h2,hf,q⟩:=h
  cases rx
  cases ry
  obtain ⟨its,rv,p,hz⟩:=I.list h1
  obtain ⟨its2,rv2,p2,hz2⟩:=I.list h2
  have l3:=rv.length
  have l4:=rv2.length
  have z:RcNeAt X.A s (.ref a) (.ref b) (!r):=by
    rcases hf with ⟨hl,rfl⟩ | ⟨bs,cs,rfl,rfl,hl,rfl⟩
    · exact RcNeAt.lists_lengths p.isList p2.isList (by rw [List.size_toArray,List.size_toArray,← l3,← l4]; exact bne_iff_ne.mpr hl) (by omega)
    · have z:=RcNeAt.lists (A:=X.A) (e:=fun j=>bs.getD j false == cs.getD j false) p.isList p2.isList (by rw [List.size_toArray,List.size_toArray,← l3,← l4,List.length_map,List.length_map,hl]) (by omega) (fun j hj1 hj2=>by rw [vals_bl rv hj1,vals_bl rv2 hj2]; exact EqAt.bool_bool _ _)
      rw [List.size_toArray,← l3,List.length_map,all_getD bs cs hl] at z
      exact z
  exact z X.prog X.w X.xe _ ⟨.bl _,H,I,rfl,q⟩
end
end L2

namespace Law
open PySem L2
section
variable {P:Program} {w:World} {K:PySem.W.Frag} {mg:Str→Option Value} {base:Heap} {f g:Addr} {fd gd:FuncData}
def spLeaf:Sp:=fun vs H Q _=>∃ (c:Int) (b:Addr) (B:List Str),vs = [.int c,.ref b]∧H b = some (.lst (B.map V.str))∧∀ v H' s,Same H H'→SyAt H' s v→s.depth = 1→s.size = 1→s.ok B→Q v H'
theorem scLeaf:FnScope ["cell","bound","kind"] ["cell","bound"] (defScope sLeaf):=⟨rfl,rfl,rfl,by decide +kernel,rfl,by decide +kernel,by decide +kernel⟩
theorem ok_leaf (F:Fun K "_law_leaf" "_law_leaf" sLeaf f fd) (ml:mg "len" = none):FnOk P w K mg base CX0 1 f fd ["cell","bound"] spLeaf:=by
  refine F.ok scLeaf (fun vs H Q E h=>?_) (fun cdv A outer s H vs Q E hr h=>?_)
  · refine xe3 h fun c b B y11=>?_
    obtain ⟨rfl,_⟩:=y11
    rfl
  refine xe3 h fun c b B y13=>?_
  obtain ⟨rfl,hb,q⟩:=y13
  have hu:_+30 < cLine:=Nat.lt_of_le_of_lt (Nat.add_le_add_left (by decide:30≤64) _) hr.units
  refine ⟨_,pss_cons (ps_set (i:=2) scLeaf.nd rfl (Or.inl rfl) (pe_op op_mod (pv 0) pe_int))
    (pss_cons (ps_if (pt_cmpR op_eq (pv 2) pe_int (nomark _)) (pss_one (ps_ret (pe_ix ix_list (pe_lst (pa_cons (pe_tup (pa_cons pe_str pa_nil)) (pa_cons (pe_tup (pa_cons pe_str pa_nil)) pa_nil))) (pe_op op_mod (pe_op op_fdiv (pv 0) pe_int) pe_int) (fun _ _=>rfl)))) pss_nil)
    (pss_cons (ps_if (PW.pt (pw_and (pt_cmpR op_gt (pv 2) pe_int (nomark _)) (pw_and1 (pt_cmpR (op_neF hu) (pv 1) (pe_lst pa_nil) (nomark _)))))
      (pss_one (ps_ret (pe_tup (pa_cons pe_str (pa_cons (pe_ix ix_list (pv 1) (pe_op op_mod (pe_op op_fdiv (pv 0) pe_int) (pe_callB call_len_seq rfl ml PySem.boot_len (pa_cons (pv 1) pa_nil))) (fun _ _=>rfl)) pa_nil))))) pss_nil)
    (pss_one (ps_ret (pe_tup (pa_cons (pe_ix ix_list (pe_lst (pa_cons pe_str (pa_cons pe_str pa_nil))) (pe_op op_mod (pv 2) pe_int) (fun _ _=>rfl)) (pa_cons (pe_ix ix_str pe_str (pe_op op_mod (pe_op op_fdiv (pv 0) pe_int) pe_int) (fun _ _=>rfl)) pa_nil))))))),?_⟩
  first | dsimp only [nxK,nxP,nxW] | skip
  have last:∀ H2,Same H H2→tRet (tTup (tCons (tOp (rIxL K) (tLst (tCons (tC (.str "mark")) (tCons (tC (.str "unmark")) tNil))) (tOp (rI (fun _ j=>0 < j) fun i j=>.int (i % j)) (tVar 2) (tC (.int 2)))) (tCons (tOp rIxS (tC (.str "pqr")) (tOp (rI (fun _ j=>0 < j) fun i j=>.int (i % j)) (tOp (rI CDiv fun i j=>.int (i / j)) (tVar 0) (tC (.int 7))) (tC (.int 3)))) tNil)))
      { nx:=fun _ H'=>Q .non H',rt:=Q } [some (.int c),some (.ref b),some (.int (c % 7))] H2:=fun H2 s2=>by
    refine ⟨(by show 2≤sizeLine; decide),fun l hl=>⟨_,rfl,_,_,rfl,rfl,(by show (0:Int) < 2; decide),l,_,_,_,rfl,rfl,SqL.of upd_same,pickK1 _,?_⟩⟩
    obtain ⟨ch,hch,hm⟩:=pickM (c / 7)
    refine ⟨_,rfl,_,_,rfl,rfl,⟨by decide,by decide⟩,_,_,rfl,rfl,(by show (0:Int) < 3; decide),_,_,ch,rfl,rfl,(by decide +kernel),hch,(by show 2≤sizeLine; decide),fun t ht=>?_⟩
    refine q _ _ (.mk (decide (c % 7 % 2 = 0)) ⟨#[ch]⟩) (s2.trans ((same_new hl _).trans (same_new ht _))) ⟨t,rfl,upd_same⟩ rfl rfl hm
  refine (xr0 rfl (xr2 rfl rfl ⟨(by show (0:Int) < 7; decide),?_⟩))
  refine ⟨_,rfl,rfl,_,rfl,ifeq2 (fun e=>?_) (fun ne=>?_)⟩
  · refine ⟨(by show 1≤sizeLine; decide),fun t1 h1=>⟨(by show 1≤sizeLine; decide),fun t2 h2=>⟨(by show 2≤sizeLine; decide),fun l hl=>?_⟩⟩⟩
    refine ⟨_,rfl,_,_,rfl,rfl,⟨by decide,by decide⟩,_,_,rfl,rfl,(by show (0:Int) < 2; decide),l,_,_,_,rfl,rfl,SqL.of upd_same,pick0 _,?_⟩
    have sm:Same H _:=(same_new h1 (.tup [V.str "yes"])).trans ((same_new h2 (.tup [V.str "no"])).trans (same_new hl (.lst [V.ref t1,V.ref t2])))
    split
    · exact q _ _ (.y0 true) sm ⟨t1,rfl,by rw [upd_ne (ne_of_none (by rw [upd_ne (ne_of_none upd_same h2)]; exact upd_same) hl),upd_ne (ne_of_none upd_same h2)]; exact upd_same⟩ rfl rfl trivial
    · exact q _ _ (.y0 false) sm ⟨t2,rfl,by rw [upd_ne (ne_of_none upd_same hl)]; exact upd_same⟩ rfl rfl trivial
  · refine (xr0 rfl (xr2 rfl rfl (xr0 rfl (ite2 (fun c1=>?_) (fun _=>iteF (last H (Same.refl H)))))))
    refine (xr0 rfl ⟨(by decide),fun e he=>?_⟩)
    have s1:=same_new he (.lst [])
    refine ⟨b,e,_,_,_,rfl,rfl,SqL.of (s1 _ _ hb),SqL.of upd_same,.nil,_,rfl,?_⟩
    rw [show decide (B.map V.str = []) = decide (B = []) by simp]
    by_cases hB:B = []
    · rw [decide_eq_true hB]
      exact iteF (last _ s1)
    · rw [decide_eq_false hB]
      refine iteT ?_
      have hl:0 < B.length:=List.length_pos_iff.mpr hB
      have hlI:(0:Int) < (((B.map V.str).length:Nat):Int):=by rw [List.length_map]; exact Int.ofNat_lt.mpr ‹_›
      obtain ⟨x,hx,ex⟩:=pickS (xs:=B) (i:=c / 7 % (((B.map V.str).length:Nat):Int)) (Int.emod_nonneg _ (by omega)) (by have:=Int.emod_lt_of_pos (c / 7) hlI; rw [List.length_map] at this ⊢; exact this)
      refine ⟨_,rfl,_,rfl,_,_,rfl,rfl,⟨by decide,by decide⟩,_,rfl,b,_,rfl,.inl (SqL.of (s1 _ _ hb)),_,_,rfl,rfl,hlI,b,_,_,_,rfl,rfl,SqL.of (s1 _ _ hb),ex,(by show 2≤sizeLine; decide),fun t ht=>?_⟩
      exact q _ _ (.nm x) (s1.trans (same_new ht _)) ⟨t,rfl,upd_same⟩ rfl rfl hx
end
end Law
namespace Law
open PySem L2
section
variable {P:Program} {w:World} {K:PySem.W.Frag} {mg:Str→Option Value} {base:Heap} {f g:Addr} {fd gd:FuncData}
def spSay (K:PySem.W.Frag) (D:Nat):Sp:=fun vs H Q _=>∃ (a p b:Addr) (ns:List Int) (k m deep:Nat) (B:List Str),vs = [.ref a,.ref p,.int (deep:Int),.ref b]∧Scr K H a ns∧H p = some (.lst [.int (k:Int),.int (m:Int)])∧H b = some (.lst (B.map V.str))∧1≤deep∧deep≤D∧B.length+D≤900 ∧
  ∀ v H' s (k' m':Nat),SameX p H H'→H' p = some (.lst [.int (k':Int),.int (m':Int)])→SyAt H' s v→s.depth≤deep→s.size+m' = m+1→s.ok B→Q v H'
theorem scSay:FnScope ["script","spot","deep","bound","cell","kind","name","free","part","first","second"] ["script","spot","deep","bound"] (defScope sSay):=⟨rfl,rfl,rfl,by decide +kernel,rfl,by decide +kernel,by decide +kernel⟩
def midSay (a p b:Addr) (c:Int) (k m deep:Nat) (H:Hp):St→Hp→Prop:=fun σ H6=>∃ z6 z7 z8,σ = [some (.ref a),some (.ref p),some (.int (deep:Int)),some (.ref b),some (.int c),some (.int (c % 9)),z6,z7,z8,none,none]∧SameX p H H6∧H6 p = some (.lst [.int ((k+1:Nat):Int),.int ((m - 1:Nat):Int)])∧2≤m∧2≤deep
theorem ndNB:(["name","bound"]:List Str).Nodup:=by decide +kernel
theorem ok_say (F:Fun K "_law_saying" "_law_saying" sSay f fd) {fN fL:Addr} {dN dL:FuncData} (GN:FnOk P w K mg base CX0 2 fN dN ["script","spot"] (spNext K)) (bN:Binds K dN ["script","spot"] []) (kN:PySem.W.keepIn K (.ref fN) = true) (mN:mg "_law_next" = some (.ref fN))
    (GL:FnOk P w K mg base CX0 1 fL dL ["cell","bound"] spLeaf) (bL:Binds K dL ["cell","bound"] []) (kL:PySem.W.keepIn K (.ref fL) = true) (mL:mg "_law_leaf" = some (.ref fL))
    (bS:Binds K fd ["script","spot","deep","bound"] []) (kS:PySem.W.keepIn K (.ref f) = true) (mS:mg "_law_saying" = some (.ref f)) (ml:mg "len" = none):∀ D,FnOk P w K mg base CX0 (3+D) f fd ["script","spot","deep","bound"] (spSay K D):=by
  intro D
  induction D with
  | zero =>
    refine F.ok scSay (fun vs H Q E h=>?_) (fun cdv A outer s H vs Q E hr h=>?_)
    · refine xe8 h fun a p b ns k m deep B y73=>?_
      obtain ⟨rfl,_⟩:=y73
      rfl
    refine xe8 h fun a p b ns k m deep B y75=>?_
    obtain ⟨rfl,_,_,_,h1,h2,_⟩:=y75
    omega
  | succ D ih =>
    refine F.ok scSay (fun vs H Q E h=>?_) (fun cdv A outer s H vs Q E hr h=>?_)
    · refine xe8 h fun a p b ns k m deep B y79=>?_
      obtain ⟨rfl,_⟩:=y79
      rfl
    refine xe8 h fun a p b ns k m deep B y81=>?_
    obtain ⟨rfl,hS,hp,hb,hd1,hd2,hB,q⟩:=y81
    have hr1:L2.Room 1 _:=hr.mono (by show 1≤3+D; omega)
    have hr2:L2.Room 2 _:=hr.mono (by show 2≤3+D; omega)
    have hu:_+30 < cLine:=Nat.lt_of_le_of_lt (Nat.add_le_add_left (by decide:30≤64) _) hr.units
    refine ⟨_,pss_cons (ps_set (i:=4) scSay.nd rfl (Or.inl rfl) (pe_call GN hr2 rfl mN kN bN .nil pass0 (pa_cons (pv 0) (pa_cons (pv 1) pa_nil))))
      (pss_cons (ps_set (i:=5) scSay.nd rfl (Or.inl rfl) (pe_op op_mod (pv 4) pe_int))
      (pss_cons (ps_if (PW.pt (pw_or (pt_cmpR op_lt (pv 2) pe_int (nomark _)) (pw_or (pt_cmpR op_lt (pe_ix ix_list (pv 1) pe_int (fun _ _=>rfl)) pe_int (nomark _)) (pw_or1 (pt_cmpR op_eq (pv 5) pe_int (nomark _))))))
        (pss_one (ps_ret (pe_call GL hr1 rfl mL kL bL .nil pass0 (pa_cons (pe_op op_fdiv (pv 4) pe_int) (pa_cons (pv 3) pa_nil))))) pss_nil)
      (pss_cons (ps_asg (pe_op op_sub (pe_ix ix_list (pv 1) pe_int (fun _ _=>rfl)) pe_int) (pg_sub (pv 1) pe_int set_list))
      (pss_cons (ps_if (pt_cmpR op_lt (pv 5) pe_int (nomark _)) (pss_one (ps_ret (pe_tup (pa_cons (pe_ix ix_list (pe_lst (pa_cons pe_str (pa_cons pe_str pa_nil))) (pe_op op_mod (pv 5) pe_int) (fun _ _=>rfl))
          (pa_cons (pe_call ih hr rfl mS kS bS .nil pass0 (pa_cons (pv 0) (pa_cons (pv 1) (pa_cons (pe_op op_sub (pv 2) pe_int) (pa_cons (pv 3) pa_nil))))) pa_nil))))) pss_nil)
      (pss_cons (ps_comp (i:=7) scSay.nd rfl (Or.inl rfl) (N:=["name","bound"]) (capt:=[none,some 3]) rfl (pi_list (pe_lst (pa_cons pe_str (pa_cons pe_str (pa_cons pe_str (pa_cons pe_str pa_nil)))))) rfl (by repeat (first | exact .nil | refine .cons rfl ?_))
        (by repeat (first | exact .nil | refine .skip (by decide) (by decide) ?_ | refine .free ⟨_,rfl⟩ ?_)) (.tgt (.var rfl (.inl rfl) ⟨_,rfl⟩ (.inl rfl) .nil))
        (fun _ _ _ _ _=>pg_name (i:=0) ndNB rfl (Or.inl rfl)) (fun _ _ _ _ _=>pif_one (pt_cmpR (notInK K) (pv 0) (pv 1) rfl)) (fun _ _ _ _ _=>pv 0))
      (pss_cut (midSay a p b (Mi.cell ns k) k m deep H) (ps_if (PW.pt (pw_and (pt_cmpR op_gt (pv 5) pe_int (nomark _)) (pw_and1 (pt_cmpR (op_neF hu) (pv 7) (pe_lst pa_nil) (nomark _)))))
        (pss_cons (ps_set (i:=6) scSay.nd rfl (Or.inl rfl) (pe_ix ix_list (pv 7) (pe_op op_mod (pe_op op_fdiv (pv 4) pe_int) (pe_callB call_len_seq rfl ml PySem.boot_len (pa_cons (pv 7) pa_nil))) (fun _ _=>rfl)))
        (pss_cons (ps_set (i:=8) scSay.nd rfl (Or.inl rfl) (pe_call ih hr rfl mS kS bS .nil pass0 (pa_cons (pv 0) (pa_cons (pv 1) (pa_cons (pe_op op_sub (pv 2) pe_int) (pa_cons (pe_op op_cat (pv 3) (pe_lst (pa_cons (pv 6) pa_nil))) pa_nil))))))
        (pss_one (ps_ret (pe_tup (pa_cons (pe_ix ix_list (pe_lst (pa_cons pe_str (pa_cons pe_str pa_nil))) (pe_op op_mod (pv 5) pe_int) (fun _ _=>rfl)) (pa_cons (pv 6) (pa_cons (pv 8) pa_nil)))))))) pss_nil)
      (pss_cons (ps_asg (pe_op op_sub (pe_ix ix_list (pv 1) pe_int (fun _ _=>rfl)) pe_int) (pg_sub (pv 1) pe_int set_list))
      (pss_cons (ps_set (i:=9) scSay.nd rfl (Or.inl rfl) (pe_call ih hr rfl mS kS bS .nil pass0 (pa_cons (pv 0) (pa_cons (pv 1) (pa_cons (pe_op op_sub (pv 2) pe_int) (pa_cons (pv 3) pa_nil))))))
      (pss_cons (ps_set (i:=10) scSay.nd rfl (Or.inl rfl) (pe_call ih hr rfl mS kS bS .nil pass0 (pa_cons (pv 0) (pa_cons (pv 1) (pa_cons (pe_op op_sub (pv 2) pe_int) (pa_cons (pv 3) pa_nil))))))
      (pss_one (ps_ret (pe_tup (pa_cons (pe_ix ix_list (pe_lst (pa_cons pe_str (pa_cons pe_str pa_nil))) (pe_op op_mod (pv 5) pe_int) (fun _ _=>rfl)) (pa_cons (pv 9) (pa_cons (pv 10) pa_nil))))))))))))))),?_⟩
    first | dsimp only [nxK,nxP,nxW] | skip
    refine seqK fun kk1 qq1=>?_
    refine (xr0 rfl (xr0 rfl (xn5 a p ns k _ ⟨rfl,hS,hp,?_⟩)))
    refine qq1 _ _ ?_
    generalize hH1:upd H p (.lst [.int ((k+1:Nat):Int),.int (m:Int)]) = H1
    have x1:SameX p H H1:=by rw [← hH1]; exact samex_upd
    have p1:H1 p = some (.lst [.int ((k+1:Nat):Int),.int (m:Int)]):=by rw [← hH1]; exact upd_same
    have b1:=keepS hb hp x1
    have hS1:=hS.keep hp x1
    generalize hc:Mi.cell ns k = c
    have leaf:tRet (tCall spLeaf [] E0 (tCons (tOp (rI CDiv fun i j=>.int (i / j)) (tVar 4) (tC (.int 9))) (tCons (tVar 3) tNil))) { nx:=fun _ H'=>Q .non H',rt:=Q } [some (.ref a),some (.ref p),some (.int (deep:Int)),some (.ref b),some (.int c),some (.int (c % 9)),none,none,none,none,none] H1:=by
      refine ⟨_,rfl,_,_,rfl,rfl,⟨by decide,by decide⟩,_,rfl,_,b,B,rfl,b1,fun v H2 s s2 hs e1 e2 ok=>?_⟩
      exact q v H2 s (k+1) m (x1.after s2) (s2 _ _ p1) hs (by omega) (by omega) ok
    refine seqK fun kk2 qq2=>?_
    refine (xr0 rfl (xr2 rfl rfl ⟨(by show (0:Int) < 9; decide),?_⟩))
    refine qq2 _ _ ?_
    refine seqK fun kk3 qq3=>?_
    refine (xr0 rfl (xr2 rfl rfl (xr0 rfl (ite2 (fun _=>iteT leaf) (fun c1=>?_)))))
    have c1':¬ (deep:Int) < 2:=of_decide_eq_false (Bool.eq_false_iff.mpr c1)
    refine (xr0 rfl (xn4 p _ _ _ ⟨rfl,rfl,SqL.of p1,at1,_,_,rfl,rfl,_,rfl,ite2 (fun _=>iteT leaf) (fun c2=>?_)⟩))
    have c2':¬ (m:Int) < 2:=of_decide_eq_false (Bool.eq_false_iff.mpr c2)
    refine (xr0 rfl ⟨rfl,xr0 rfl (ifeq2 (fun _=>leaf) (fun _=>?_))⟩)
    refine qq3 _ _ ?_
    refine seqK fun kk4 qq4=>?_
    refine (xr0 rfl (xn4 p _ _ _ ⟨rfl,rfl,SqL.of p1,at1,_,_,rfl,rfl,_,rfl,p,_,1,1,rfl,rfl,p1,rfl,?_⟩))
    refine qq4 _ _ ?_
    have e1:([V.int ((k+1:Nat):Int),V.int (m:Int)]:List V).set 1 (V.int ((m:Int) - 1)) = [V.int ((k+1:Nat):Int),V.int ((m - 1:Nat):Int)]:=by
      show [V.int ((k+1:Nat):Int),V.int ((m:Int) - 1)] = _
      rw [show (m:Int) - 1 = ((m - 1:Nat):Int) by omega]
    rw [e1]
    generalize hH2:upd H1 p (.lst [V.int ((k+1:Nat):Int),V.int ((m - 1:Nat):Int)]) = H2
    have x2:SameX p H H2:=by rw [← hH2]; exact x1.trans samex_upd
    have p2:H2 p = some (.lst [.int ((k+1:Nat):Int),.int ((m - 1:Nat):Int)]):=by rw [← hH2]; exact upd_same
    have b2:=keepS hb hp x2
    have hS2:=hS.keep hp x2
    have dd:(deep:Int) - 1 = ((deep - 1:Nat):Int):=by omega
    refine seqK fun kk5 qq5=>?_
    refine (xr0 rfl (xr2 rfl rfl (xr0 rfl (ite2 (fun _=>?_) (fun c4=>?_)))))
    · refine ⟨(by show 2≤sizeLine; decide),fun l hl=>(xr0 rfl (xr2 rfl rfl ⟨(by show (0:Int) < 2; decide),xn4 l _ _ _ ⟨rfl,rfl,SqL.of upd_same,pickK2 _,?_⟩⟩))⟩
      have s3:=same_new hl (.lst [V.str "some",V.str "every"])
      refine (xr0 rfl (xr0 rfl (xr0 rfl (xr2 rfl rfl (xr0 rfl ⟨a,p,b,ns,k+1,m - 1,deep - 1,B,?_,hS2.same s3,s3 _ _ p2,s3 _ _ b2,by omega,by omega,by exact Nat.le_of_lt ‹_›,fun v H4 s k' m' x4 p4 hs hde hsi ok=>⟨(by show 2≤sizeLine; decide),fun t ht=>?_⟩⟩)))))
      · show [V.ref a,V.ref p,V.int ((deep:Int) - 1),V.ref b] = _
        rw [dd]
      · have s5:=same_new ht (.tup [V.str (Sy.k2 (decide (c % 9 % 2 = 0))),v])
        exact q _ _ (.st (decide (c % 9 % 2 = 0)) s) k' m' (((x2.after s3).trans x4).after s5) (s5 _ _ p4) ⟨t,v,rfl,upd_same,hs.same s5⟩ (by simp [Sy.depth]; omega) (by simp [Sy.size]; omega) ok
    refine qq5 _ _ ?_
    refine seqK fun kk6 qq6=>?_
    refine ⟨(by show 4≤sizeLine; decide),fun l0 hl0=>?_⟩
    have s3:=same_new hl0 (.lst [V.str "X",V.str "Y",V.str "Z",V.str "U"])
    generalize hH3:upd H2 l0 (.lst [V.str "X",V.str "Y",V.str "Z",V.str "U"]) = H3 at s3
    have e3:H3 l0 = some (.lst (Sy.names.map V.str)):=by rw [← hH3]; exact upd_same
    refine ⟨l0,rfl,⟨_,SqL.of e3⟩,?_⟩
    refine comp_list (K:=K) (a:=l0) (xs:=Sy.names.map V.str) (fun D i ys H5=>Same H3 H5∧H3 D = none∧H5 D = some (.lst ys)∧ys = ((Sy.names.take i).filter fun x=>decide (x∉B)).map V.str) ?_ ?_ ?_ ?_
    · exact fun D hD=>⟨same_new hD _,hD,upd_same,rfl⟩
    · rintro C i ys H5 hi ⟨sm,hD,h5,ey⟩
      refine ⟨SqL.of (sm _ _ e3),h5,fun _=>?_⟩
      rw [ey]
      refine small1000 ?_
      rw [List.length_map]
      have:=List.length_filter_le (fun x=>decide (x∉B)) (Sy.names.take i)
      have h4:(Sy.names.take i).length≤4:=by simp [Sy.names]; omega
      omega
    · rintro C i x ys H5 hx ⟨sm,hD,h5,ey⟩
      rw [List.getElem?_map] at hx
      obtain ⟨z,ez,rfl⟩:=Option.map_eq_some_iff.mp hx
      have tk:Sy.names.take (i+1) = Sy.names.take i++[z]:=by
        obtain ⟨hi,e⟩:=List.getElem?_eq_some_iff.mp ez
        rw [List.take_succ_eq_append_getElem hi,e]
      refine ⟨⟨rfl,trivial⟩,_,rfl,_,rfl,b,_,rfl,.inl (SqL.of (sm _ _ (s3 _ _ b2))),rfl,flatS B,_,rfl,?_⟩
      rw [inS]
      by_cases hz:z∈B
      · rw [decide_eq_true hz]
        refine iteF ⟨sm,hD,h5,?_⟩
        rw [ey,tk,List.filter_append]
        simp [hz]
      · rw [decide_eq_false hz]
        refine iteT (xr0 rfl ⟨h5,fun b o e=>?_,hD,upd_same,?_⟩)
        · rw [upd_ne (ne_of_none e hD)]
          exact sm b o e
        · rw [ey,tk,List.filter_append]
          simp [hz]
    rintro fr ys H5 ⟨sm5,hfr,h5,ey⟩
    refine qq6 _ _ ?_
    rw [List.length_map,List.take_length] at ey
    generalize hFS:(Sy.names.filter fun x=>decide (x∉B)) = FS at ey
    subst ey
    have x5:SameX p H H5:=x2.after (s3.trans sm5)
    have p5:=(s3.trans sm5) _ _ p2
    have b5:=keepS hb hp x5
    have hS5:=hS.keep hp x5
    refine ⟨(xr0 rfl (xr2 rfl rfl (xr0 rfl (ite2 (fun c5=>?_) (fun _=>iteF (xn3 _ _ _ ⟨rfl,x5,p5,by omega,by omega⟩)))))),?_⟩
    · refine (xr0 rfl ⟨(by decide),fun e he=>?_⟩)
      have s6:=same_new he (.lst [])
      refine ⟨fr,e,_,_,_,rfl,rfl,SqL.of (s6 _ _ h5),SqL.of upd_same,.nil,_,rfl,?_⟩
      rw [show decide (FS.map V.str = []) = decide (FS = []) by simp]
      generalize hH6:upd H5 e (.lst []) = H6 at s6
      by_cases hF:FS = []
      · rw [decide_eq_true hF]
        exact iteF (xn3 _ _ _ ⟨rfl,x5.after s6,s6 _ _ p5,by omega,by omega⟩)
      · rw [decide_eq_false hF]
        refine iteT ?_
        have hl:0 < FS.length:=List.length_pos_iff.mpr hF
        have hlI:(0:Int) < (((FS.map V.str).length:Nat):Int):=by rw [List.length_map]; exact Int.ofNat_lt.mpr ‹_›
        obtain ⟨x,hx,ex⟩:=pickS (xs:=FS) (i:=c / 9 % (((FS.map V.str).length:Nat):Int)) (Int.emod_nonneg _ (by omega)) (by have:=Int.emod_lt_of_pos (c / 9) hlI; rw [List.length_map] at this ⊢; exact this)
        have hx2:x∈Sy.names∧x∉B:=by
          rw [← hFS] at hx
          simpa using hx
        refine ⟨_,rfl,_,rfl,_,_,rfl,rfl,⟨by decide,by decide⟩,_,rfl,fr,_,rfl,.inl (SqL.of (s6 _ _ h5)),_,_,rfl,rfl,hlI,fr,_,_,_,rfl,rfl,SqL.of (s6 _ _ h5),ex,?_⟩
        refine ⟨_,rfl,_,rfl,_,rfl,_,_,rfl,rfl,_,rfl,_,rfl,(by show 1≤sizeLine; decide),fun n hn=>?_⟩
        have s7:=same_new hn (.lst [V.str x])
        refine (xn4 b n _ _ ⟨rfl,rfl,s7 _ _ (s6 _ _ b5),upd_same,?_,fun bn hbn=>?_⟩)
        · rw [List.length_map]; exact Nat.le_of_lt (small1000 (by simp; omega))
        have s8:=s6.trans (s7.trans (same_new hbn (.lst (B.map V.str++[V.str x]))))
        have p8:=s8 _ _ p5
        have x8:=x5.after s8
        refine ⟨a,p,bn,ns,k+1,m - 1,deep - 1,B++[x],?_,hS.keep hp x8,p8,?_,by omega,by omega,by simp; omega,fun v H9 s k' m' x9 p9 hs hde hsi ok=>?_⟩
        · show [V.ref a,V.ref p,V.int ((deep:Int) - 1),V.ref bn] = _
          rw [dd]
        · rw [upd_same,List.map_append]
          rfl
        refine ⟨(by show 2≤sizeLine; decide),fun l hl=>(xr0 rfl (xr2 rfl rfl ⟨(by show (0:Int) < 2; decide),xn4 l _ _ _ ⟨rfl,rfl,SqL.of upd_same,pickK4 _,xr0 rfl (xr0 rfl ⟨(by show 3≤sizeLine; decide),fun t ht=>?_⟩)⟩⟩))⟩
        have s10:=(same_new hl (.lst [V.str "least",V.str "most"])).trans (same_new ht (.tup [V.str (Sy.k4 (decide (c % 9 % 2 = 0))),V.str x,v]))
        exact q _ _ (.bn (decide (c % 9 % 2 = 0)) x s) k' m' ((x8.trans x9).after s10) (s10 _ _ p9) ⟨t,v,rfl,upd_same,hs.same s10⟩ (by simp [Sy.depth]; omega) (by simp [Sy.size]; omega) ⟨hx2.2,hx2.1,ok⟩
    · rintro _ H6 z230
      refine xe3 z230 fun z6 z7 z8 y230=>?_
      obtain ⟨rfl,x6,p6,hm2,hd22⟩:=y230
      subst hc
      refine (xr0 rfl (xn4 p _ _ _ ⟨rfl,rfl,SqL.of p6,at1,_,_,rfl,rfl,_,rfl,p,_,1,1,rfl,rfl,p6,rfl,?_⟩))
      have e2:([V.int ((k+1:Nat):Int),V.int ((m - 1:Nat):Int)]:List V).set 1 (V.int (((m - 1:Nat):Int) - 1)) = [V.int ((k+1:Nat):Int),V.int ((m - 2:Nat):Int)]:=by
        show [V.int ((k+1:Nat):Int),V.int (((m - 1:Nat):Int) - 1)] = _
        rw [show ((m - 1:Nat):Int) - 1 = ((m - 2:Nat):Int) by omega]
      rw [e2]
      generalize hH7:upd H6 p (.lst [V.int ((k+1:Nat):Int),V.int ((m - 2:Nat):Int)]) = H7
      have x7:SameX p H H7:=by rw [← hH7]; exact x6.trans samex_upd
      have p7:H7 p = some (.lst [.int ((k+1:Nat):Int),.int ((m - 2:Nat):Int)]):=by rw [← hH7]; exact upd_same
      refine (xr0 rfl (xr0 rfl (xr0 rfl (xr2 rfl rfl (xr0 rfl ⟨a,p,b,ns,k+1,m - 2,deep - 1,B,?_,hS.keep hp x7,p7,keepS hb hp x7,by omega,by omega,by exact Nat.le_of_lt ‹_›,fun v H8 s k' m' x8 p8 hs hde hsi ok=>?_⟩)))))
      · show [V.ref a,V.ref p,V.int ((deep:Int) - 1),V.ref b] = _
        rw [dd]
      have y8:=x7.trans x8
      refine (xr0 rfl (xr0 rfl (xr0 rfl (xr2 rfl rfl (xr0 rfl ⟨a,p,b,ns,k',m',deep - 1,B,?_,hS.keep hp y8,p8,keepS hb hp y8,by omega,by omega,by exact Nat.le_of_lt ‹_›,fun v2 H9 s2 k2 m2 x9 p9 hs2 hde2 hsi2 ok2=>?_⟩)))))
      · show [V.ref a,V.ref p,V.int ((deep:Int) - 1),V.ref b] = _
        rw [dd]
      refine ⟨(by show 2≤sizeLine; decide),fun l hl=>(xr0 rfl (xr2 rfl rfl ⟨(by show (0:Int) < 2; decide),xn4 l _ _ _ ⟨rfl,rfl,SqL.of upd_same,pickK3 _,xr0 rfl (xr0 rfl ⟨(by show 3≤sizeLine; decide),fun t ht=>?_⟩)⟩⟩))⟩
      have s10:=(same_new hl (.lst [V.str "both",V.str "either"])).trans (same_new ht (.tup [V.str (Sy.k3 (decide (Mi.cell ns k % 9 % 2 = 0))),v,v2]))
      exact q _ _ (.pr (decide (Mi.cell ns k % 9 % 2 = 0)) s s2) k2 m2 ((y8.trans x9).after s10) (s10 _ _ p9) ⟨t,v,v2,rfl,upd_same,(hs.keep p8 x9).same s10,hs2.same s10⟩ (by simp [Sy.depth]; omega) (by simp [Sy.size]; omega) ⟨ok,ok2⟩
end
end Law

namespace L2
open PySem
theorem joinOk0 {ts:List Str} (hB:∀ y∈ts,y.length≤1) (hn:ts.length≤100):JoinOk (Str.ofString "") ts = true:=by
  unfold JoinOk
  rw [StrLaws.joinFits hB]
  · rfl
  · have h3:(Str.ofString "").length = 0:=by decide +kernel
    rw [h3]
    omega
def PlaceAt (H:Hp) (p:Str×List Nat) (v:V):Prop:=∃ pa qa,v = .ref pa∧H pa = some (.tup [.str p.1,.ref qa])∧H qa = some (.tup (p.2.map fun (w:Nat)=>V.int (w:Int)))
theorem PlaceAt.imp {H H':Hp} (k:∀ a xs,H a = some (.tup xs)→H' a = some (.tup xs)) {p:Str×List Nat} {v:V} (h:PlaceAt H p v):PlaceAt H' p v:=by
  obtain ⟨pa,qa,e,h1,h2⟩:=h
  exact ⟨pa,qa,e,k _ _ h1,k _ _ h2⟩
structure WorldAt (H:Hp) (l:Addr) {N:Nat} (W:Wo N) (vs:List V):Prop where
  lst:H l = some (.lst vs)
  len:vs.length = N
  at':∀ i:Fin N,∃ v,vs[i.val]? = some v∧PlaceAt H (W.ma i,(W.ws i).map Fin.val) v
theorem WorldAt.imp {H H':Hp} {l:Addr} {N:Nat} {W:Wo N} {vs:List V} (h:WorldAt H l W vs) (hl:H' l = some (.lst vs)) (k:∀ a xs,H a = some (.tup xs)→H' a = some (.tup xs)):WorldAt H' l W vs :=
  ⟨hl,h.len,fun i=>by obtain ⟨v,e,p⟩:=h.at' i; exact ⟨v,e,p.imp k⟩⟩
theorem WorldAt.same {H H':Hp} {l:Addr} {N:Nat} {W:Wo N} {vs:List V} (h:WorldAt H l W vs) (k:Same H H'):WorldAt H' l W vs:=h.imp (k _ _ h.lst) fun a xs e=>k _ _ e
def Wo.rises {N:Nat} (W:Wo N):Prop:=∀ i,((W.ws i).map Fin.val).Pairwise (· < ·)
def woOf (pl:List (Str×List Nat)):Wo pl.length:=⟨fun i=>pl[i].1,fun i=>pl[i].2.filterMap fun w=>if h:w < pl.length then some ⟨w,h⟩ else none⟩
theorem woOf_ws {N:Nat}:∀ {l:List Nat},(∀ w∈l,w < N)→(l.filterMap fun w=>if h:w < N then some (⟨w,h⟩:Fin N) else none).map Fin.val = l
  | [],_=>rfl
  | w::l,h=>by
    have hw:=h w (by simp)
    rw [List.filterMap_cons]
    simp only [hw,dif_pos,List.map_cons]
    rw [woOf_ws fun u hu=>h u (List.mem_cons_of_mem _ hu)]
theorem worldAt_of {H:Hp} {l:Addr} {pl:List (Str×List Nat)} {vs:List V} (hl:H l = some (.lst vs)) (pr:Paired (PlaceAt H) pl vs) (hw:∀ p∈pl,∀ w∈p.2,w < pl.length):WorldAt H l (woOf pl) vs:=by
  have len:pl.length = vs.length:=Paired.length pr
  refine ⟨hl,len.symm,fun i=>?_⟩
  have hi:i.val < vs.length:=len▸i.isLt
  refine ⟨vs[i.val],List.getElem?_eq_getElem hi,?_⟩
  obtain ⟨r,er,pr'⟩:=pair_backG pr (List.getElem?_eq_getElem hi)
  have e:pl[i.val] = r:=(List.getElem?_eq_some_iff.mp er).2
  have e2:((woOf pl).ws i).map Fin.val = r.2:=by
    show (pl[i.val].2.filterMap _).map Fin.val = _
    rw [woOf_ws (hw _ (List.getElem_mem i.isLt)),e]
  rw [e2]
  have e3:(woOf pl).ma i = r.1:=by show pl[i.val].1 = _; rw [e]
  rw [e3]
  exact pr'
def tr {N:Nat} (f:Tr N):List V:=(List.ofFn f).map V.bl
theorem tr_len {N:Nat} (f:Tr N):(tr f).length = N:=by simp [tr]
theorem tr_get {N:Nat} (f:Tr N) (i:Nat) (h:i < N):(tr f)[i]? = some (.bl (f ⟨i,h⟩)):=by
  rw [tr,List.getElem?_map,List.getElem?_ofFn,dif_pos h]
  rfl
theorem tr_take {N:Nat} (f:Tr N) (i:Nat) (h:i < N):(tr f).take (i+1) = (tr f).take i++[.bl (f ⟨i,h⟩)]:=by
  have hl:i < (tr f).length:=by rw [tr_len]; exact h
  rw [List.take_succ_eq_append_getElem hl]
  congr 2
  have:=tr_get f i h
  rw [List.getElem?_eq_getElem hl] at this
  exact Option.some.inj this
theorem tr_inj {N:Nat} {f g:Tr N} (h:tr f = tr g):f = g:=by
  funext i
  have h1:=tr_get f i.val i.isLt
  rw [h,tr_get g i.val i.isLt] at h1
  injection h1 with h1
  injection h1 with h1
  exact h1.symm
def EnvAt {N:Nat} (H:Hp) (d:Addr) (B:List Str) (e:En N):Prop:=∃ kvs:List (Key×V),H d = some (.dK kvs)∧kvs.length≤B.length∧∀ x∈B,∃ l,valV kvs (.inr x) = some (.ref l)∧H l = some (.lst (tr (e x)))
theorem EnvAt.same {N:Nat} {H H':Hp} {d:Addr} {B:List Str} {e:En N} (h:EnvAt H d B e) (k:Same H H'):EnvAt H' d B e:=by
  obtain ⟨kvs,h1,h2,h3⟩:=h
  exact ⟨kvs,k _ _ h1,h2,fun x hx=>by obtain ⟨l,e1,e2⟩:=h3 x hx; exact ⟨l,e1,k _ _ e2⟩⟩
theorem putK_len (kvs:List (Key×V)) (k:Key) (v:V):(putK kvs k v).length≤kvs.length+1:=by
  unfold putK
  split<;>simp
theorem pgT (K:PySem.W.Frag) {X:Cx} {es:List Expr} {k:Nat} {t:TGs} {n:Nat} {pos:Pos} (hc:X.calm = true) (h:PGs X es t) (hK:X.K = K:=by rfl)
    (hn:(assignEach es X.env).length = n:=by rfl) (hst:(assignEach es X.env).findIdx? (·.1) = none:=by rfl):PG X (.Tuple es k pos) (gTup K n t):=hK▸pg_tup hc h hn hst
theorem piT (K:PySem.W.Frag) {X:Cx} {tg l:Expr} {tl:TE} (hl:PE X l tl) (hK:X.K = K:=by rfl):PI X tg l (iTup K tl):=hK▸pi_tup hl
end L2

namespace Law
open PySem L2
section
variable {P:Program} {w:World} {K:PySem.W.Frag} {mg:Str→Option Value} {base:Heap} {f g:Addr} {fd gd:FuncData}
def spWorld (K:PySem.W.Frag):Sp:=fun vs H Q _=>∃ (a p:Addr) (ns:List Int) (k most:Nat) (m:V),vs = [.ref a,.ref p,.int (most:Int)]∧Scr K H a ns∧H p = some (.lst [.int (k:Int),m])∧0 < most∧most≤6 ∧
  ∀ l H' k' (N:Nat) (W:Wo N) us,SameX p H H'→H l = none→H' p = some (.lst [.int ((k':Nat):Int),m])→WorldAt H' l W us→0 < N→N≤most→W.rises→Q (.ref l) H'
theorem scWorld:FnScope ["script","spot","most","many","world","k","cell","marks","ways"] ["script","spot","most"] (defScope sWorld):=⟨rfl,rfl,rfl,by decide +kernel,rfl,by decide +kernel,by decide +kernel⟩
theorem at3 {i:Nat} (h:i < 3):∃ x,atI [V.int 1,V.int 2,V.int 4] (0+(i:Int)) = some (.int x)∧0 < x∧x < 100:=by
  rcases (show i = 0∨i = 1∨i = 2 by omega) with e | e | e<;>subst e
  · exact ⟨1,rfl,by decide,by decide⟩
  · exact ⟨2,rfl,by decide,by decide⟩
  · exact ⟨4,rfl,by decide,by decide⟩
theorem atP {i:Nat} (h:i < 3):∃ c,atI (Str.ofString "pqr").cps.toList (0+(i:Int)) = some c:=by
  rcases (show i = 0∨i = 1∨i = 2 by omega) with e | e | e<;>subst e
  · exact ⟨112,by decide +kernel⟩
  · exact ⟨113,by decide +kernel⟩
  · exact ⟨114,by decide +kernel⟩
theorem at6 {i:Nat} (h:i < 6):∃ x,atI [V.int 1,V.int 2,V.int 4,V.int 8,V.int 16,V.int 32] (0+(i:Int)) = some (.int x)∧0 < x∧x < 100:=by
  obtain ⟨h1,h2⟩:=(by decide:∀ i:Fin 6,([1,2,4,8,16,32]:List Int)[i.val]? = some (2 ^ i.val)∧(0:Int) < 2 ^ i.val∧(2:Int) ^ i.val < 100) ⟨i,h⟩
  refine ⟨2 ^ i,?_,h2⟩
  rw [Int.zero_add]
  exact atI_nat (by have:=congrArg (Option.map V.int) h1; rw [← List.getElem?_map] at this; exact this)
theorem ndJC:(["j","cell"]:List Str).Nodup:=by decide +kernel
theorem ndWC:(["way","cell"]:List Str).Nodup:=by decide +kernel
theorem ok_world (F:Fun K "_law_world" "_law_world" sWorld f fd) {fN:Addr} {dN:FuncData} (GN:FnOk P w K mg base CX0 2 fN dN ["script","spot"] (spNext K)) (bN:Binds K dN ["script","spot"] []) (kN:PySem.W.keepIn K (.ref fN) = true) (mN:mg "_law_next" = some (.ref fN))
    (mr:mg "range" = none) (mt:mg "tuple" = none):FnOk P w K mg base CX0 3 f fd ["script","spot","most"] (spWorld K):=by
  refine F.ok scWorld (fun vs H Q E h=>?_) (fun cdv A outer s H vs Q E hr h=>?_)
  · refine xe6 h fun a p ns k most m y35=>?_
    obtain ⟨rfl,_⟩:=y35
    rfl
  refine xe6 h fun a p ns k most m y37=>?_
  obtain ⟨rfl,hS,hp,hm0,hm6,q⟩:=y37
  refine ⟨_,pss_cons (ps_set (i:=3) scWorld.nd rfl (Or.inl rfl) (pe_op op_add pe_int (pe_op op_mod (pe_call GN hr rfl mN kN bN .nil pass0 (pa_cons (pv 0) (pa_cons (pv 1) pa_nil))) (pv 2))))
    (pss_cons (ps_set (i:=4) scWorld.nd rfl (Or.inl rfl) (pe_lst pa_nil))
    (pss_cons (ps_for PassesOwn.never rfl (pi_range1 rfl mr (pa_cons (pv 3) pa_nil)) (pg_name (i:=5) scWorld.nd rfl (Or.inl rfl))
      (pss_cons (ps_set (i:=6) scWorld.nd rfl (Or.inr rfl) (pe_op op_add (pe_call GN hr rfl mN kN bN .nil pass0 (pa_cons (pv 0) (pa_cons (pv 1) pa_nil))) (pe_op op_mul pe_int (pv 5))))
      (pss_cons (ps_set (i:=7) scWorld.nd rfl (Or.inl rfl) (pe_bm PySem.F.plainAttrs_str PySem.F.slot_str_join PySem.F.type_str_join mt_join pe_str (pa_cons (pe_comp (N:=["j","cell"]) (capt:=[none,some 6]) rfl (pi_range1 rfl mr (pa_cons pe_int pa_nil)) rfl (by repeat (first | exact .nil | refine .cons rfl ?_))
          (by repeat (first | exact .nil | refine .skip (by decide) (by decide) ?_ | refine .free ⟨_,rfl⟩ ?_)) (.tgt (.var rfl (.inl rfl) ⟨_,rfl⟩ (.inl rfl) .nil))
          (fun _ _ _ _ _=>pg_name (i:=0) ndJC rfl (Or.inl rfl)) (fun _ _ _ _ _=>pif_one (pt_cmpR op_eq (pe_op op_mod (pe_op op_fdiv (pv 1) (pe_ix (ixL K) (pe_lst (pa_cons pe_int (pa_cons pe_int (pa_cons pe_int pa_nil)))) (pv 0) (fun _ _=>rfl))) pe_int) pe_int (nomark _)))
          (fun _ _ _ _ _=>pe_ix ix_str pe_str (pv 0) (fun _ _=>rfl))) pa_nil)))
      (pss_cons (ps_comp (i:=8) scWorld.nd rfl (Or.inl rfl) (N:=["way","cell"]) (capt:=[none,some 6]) rfl (pi_range1 rfl mr (pa_cons (pv 3) pa_nil)) rfl (by repeat (first | exact .nil | refine .cons rfl ?_))
          (by repeat (first | exact .nil | refine .skip (by decide) (by decide) ?_ | refine .free ⟨_,rfl⟩ ?_)) (.tgt (.var rfl (.inl rfl) ⟨_,rfl⟩ (.inl rfl) .nil))
          (fun _ _ _ _ _=>pg_name (i:=0) ndWC rfl (Or.inl rfl)) (fun _ _ _ _ _=>pif_one (pt_cmpR op_eq (pe_op op_mod (pe_op op_fdiv (pe_op op_fdiv (pv 1) pe_int) (pe_ix (ixL K) (pe_lst (pa_cons pe_int (pa_cons pe_int (pa_cons pe_int (pa_cons pe_int (pa_cons pe_int (pa_cons pe_int pa_nil))))))) (pv 0) (fun _ _=>rfl))) pe_int) pe_int (nomark _)))
          (fun _ _ _ _ _=>pv 0))
      (pss_one (ps_expr (pe_bm PySem.F.plainAttrs_list PySem.F.slot_list_append PySem.F.type_list_append mt_append (pv 4) (pa_cons (pe_tup (pa_cons (pv 7) (pa_cons (pe_callTy call_tuple_of rfl mt PyProof.Rows.boot_tuple (pa_cons (pv 8) pa_nil)) pa_nil))) pa_nil))))))))
    (pss_one (ps_ret (pv 4))))),?_⟩
  first | dsimp only [nxK,nxP,nxW] | skip
  have c0:=Int.emod_nonneg (Mi.cell ns k) (show (most:Int)≠0 by omega)
  have c1:=Int.emod_lt_of_pos (Mi.cell ns k) (show (0:Int) < (most:Int) by exact Int.ofNat_lt.mpr ‹_›)
  refine (xr0 rfl (xr0 rfl (xn5 a p ns k m ⟨rfl,hS,hp,_,rfl,_,_,rfl,rfl,(by show (0:Int) < (most:Int); exact Int.ofNat_lt.mpr ‹_›),_,_,rfl,rfl,(by decide),fun l hl=>?_⟩)))
  have np:l≠p:=fun z=>by rw [z,upd_same] at hl; cases hl
  have hln:H l = none:=by rw [upd_ne np] at hl; exact hl
  have x1:SameX p H (upd (upd H p (.lst [.int ((k+1:Nat):Int),m])) l (.lst [])):=samex_upd.after (same_new hl _)
  have p1:(upd (upd H p (.lst [.int ((k+1:Nat):Int),m])) l (.lst [])) p = some (.lst [.int ((k+1:Nat):Int),m]):=by rw [upd_ne np.symm]; exact upd_same
  refine (xr0 rfl ⟨1+Mi.cell ns k % (most:Int),rfl,by omega,by omega,?_⟩)
  have N0:0 < (1+Mi.cell ns k % (most:Int)).toNat:=by omega
  have N6:(1+Mi.cell ns k % (most:Int)).toNat≤most:=by omega
  have NI:1+Mi.cell ns k % (most:Int) = ((1+Mi.cell ns k % (most:Int)).toNat:Int):=by omega
  generalize hN:(1+Mi.cell ns k % (most:Int)).toNat = N at N0 N6 NI
  refine for_range (lo:=0) (n:=N) (fun i σ H2=>∃ (k':Nat) (z5 z6 z7 z8:Option V) (us:List V) (pl:List (Str×List Nat)),σ = [some (.ref a),some (.ref p),some (.int (most:Int)),some (.int (1+Mi.cell ns k % (most:Int))),some (.ref l),z5,z6,z7,z8]∧SameX p H H2∧H2 p = some (.lst [.int (k':Int),m])∧H2 l = some (.lst us)∧Paired (PlaceAt H2) pl us∧pl.length = i∧∀ q∈pl,(∀ w∈q.2,w < N)∧q.2.Pairwise (· < ·))
    ⟨k+1,none,none,none,none,[],[],rfl,x1,p1,upd_same,.nil,rfl,fun q hq=>by cases hq⟩ ?_ ?_
  · rintro i σ H2 hi ⟨k',z5,z6,z7,z8,us,pl,rfl,x2,p2,l2,pr2,len2,all2⟩
    refine seqK fun kk1 qq1=>?_
    refine (xr0 rfl (xr0 rfl (xn5 a p ns k' m ⟨rfl,hS.keep hp x2,p2,_,rfl,xr2 rfl rfl ⟨.inl ⟨by decide,by decide⟩,xr2 rfl rfl ?_⟩⟩)))
    refine qq1 _ _ ?_
    generalize hH3:upd H2 p (.lst [.int ((k'+1:Nat):Int),m]) = H3
    have x3:SameX p H2 H3:=by rw [← hH3]; exact samex_upd
    have p3:H3 p = some (.lst [.int ((k'+1:Nat):Int),m]):=by rw [← hH3]; exact upd_same
    have l3:H3 l = some (.lst us):=x3 _ _ l2 np
    have pr3:Paired (PlaceAt H3) pl us:=L2.Paired.mapP pr2 fun _ _ z=>z.imp fun b xs e=>x3 _ _ e fun y=>by rw [y,p2] at e; cases e
    generalize hcell:Mi.cell ns k'+77777*(0+(i:Int)) = cell
    refine seqK fun kk2 qq2=>?_
    refine ⟨rfl,3,rfl,by decide,by decide,?_⟩
    refine comp_range (lo:=0) (n:=Int.toNat 3) (fun D i ys H4=>Same H3 H4∧H3 D = none∧H4 D = some (.lst ys)∧(∃ ts:List Str,ys = ts.map V.str∧∀ y∈ts,y.length≤1)∧ys.length≤i) ?_ ?_ ?_ ?_
    · exact fun D hD=>⟨same_new hD _,hD,upd_same,⟨[],rfl,fun y hy=>by cases hy⟩,Nat.le_refl _⟩
    · rintro D j ys H4 hj ⟨sm,hD,h4,_,hl4⟩
      have:j≤3:=hj
      exact ⟨h4,fun _=>small1000 (by omega)⟩
    · rintro D j ys H4 hj ⟨sm,hD,h4,⟨ts,ey,hts⟩,hl4⟩
      have hj3:j < 3:=hj
      obtain ⟨x,ex,x0,x9⟩:=at3 hj3
      obtain ⟨ch,ech⟩:=atP hj3
      refine ⟨⟨rfl,trivial⟩,_,rfl,(by show 3≤sizeLine; decide),fun e he=>?_⟩
      have s5:=same_new he (.lst [V.int 1,V.int 2,V.int 4])
      refine (xr0 rfl (xn4 e _ _ _ ⟨rfl,rfl,SqL.of upd_same,ex,_,_,rfl,rfl,⟨x0,by omega⟩,_,_,rfl,rfl,(by show (0:Int) < 2; decide),rfl,_,rfl,ite2 (fun _=>?_) (fun _=>?_)⟩))
      · have h5:=s5 _ _ h4
        refine (xr0 rfl (xn3 _ _ ch ⟨rfl,rfl,(by decide +kernel),ech,h5,fun b o eb=>?_,hD,upd_same,⟨ts++[⟨#[ch]⟩],by rw [ey,List.map_append]; rfl,fun y hy=>?_⟩,by simp; assumption⟩))
        · rw [upd_ne (ne_of_none eb hD)]
          exact s5 _ _ (sm _ _ eb)
        · rcases List.mem_append.mp hy with z | z
          · exact hts y z
          · rw [List.mem_singleton.mp z]; exact Nat.le_refl 1
      · exact ⟨sm.trans s5,hD,s5 _ _ h4,⟨ts,ey,hts⟩,by exact Nat.le_succ_of_le ‹_›⟩
    rintro D ys H4 ⟨sm4,hD,h4,⟨ts,ey,hts⟩,hl4⟩
    subst ey
    rw [List.length_map] at hl4
    refine ⟨_,D,ts,rfl,rfl,SqL.of h4,joinOk0 hts (by have:Int.toNat 3 = 3:=rfl; omega),?_⟩
    refine qq2 _ _ ?_
    generalize Str.join (Str.ofString "") ts = mk
    refine seqK fun kk3 qq3=>?_
    refine (xr0 rfl ⟨1+Mi.cell ns k % (most:Int),rfl,by omega,by omega,?_⟩)
    rw [hN]
    refine comp_range (lo:=0) (n:=N) (fun D j ys H5=>Same H4 H5∧H4 D = none∧H5 D = some (.lst ys)∧(∃ ws:List Nat,ys = ws.map (fun (w:Nat)=>V.int (w:Int))∧(∀ w∈ws,w < j)∧ws.Pairwise (· < ·))∧ys.length≤j) ?_ ?_ ?_ ?_
    · exact fun D hD=>⟨same_new hD _,hD,upd_same,⟨[],rfl,fun y hy=>by (cases hy),.nil⟩,Nat.le_refl _⟩
    · rintro D j ys H5 hj ⟨sm,hD,h5,_,hl5⟩
      exact ⟨h5,fun _=>small1000 (by omega)⟩
    · rintro D j ys H5 hj ⟨sm,hD,h5,⟨ws,ey,hws,hpw⟩,hl5⟩
      obtain ⟨x,ex,x0,x9⟩:=at6 (show j < 6 by omega)
      refine ⟨⟨rfl,trivial⟩,_,rfl,_,_,rfl,rfl,⟨by decide,by decide⟩,(by show 6≤sizeLine; decide),fun e he=>?_⟩
      have s6:=same_new he (.lst [V.int 1,V.int 2,V.int 4,V.int 8,V.int 16,V.int 32])
      refine (xr0 rfl (xn4 e _ _ _ ⟨rfl,rfl,SqL.of upd_same,ex,_,_,rfl,rfl,⟨x0,by omega⟩,_,_,rfl,rfl,(by show (0:Int) < 2; decide),rfl,_,rfl,ite2 (fun _=>?_) (fun _=>?_)⟩))
      · refine (xr0 rfl ⟨s6 _ _ h5,fun b o eb=>?_,hD,upd_same,⟨ws++[j],?_,fun w' hw'=>?_,?_⟩,by simp; assumption⟩)
        · rw [upd_ne (ne_of_none eb hD)]
          exact s6 _ _ (sm _ _ eb)
        · rw [ey,List.map_append]
          show _ = _++[V.int (j:Int)]
          rw [show (0:Int)+(j:Int) = (j:Int) by exact Int.zero_add _]
        · rcases List.mem_append.mp hw' with z | z
          · have:=hws w' z; exact Nat.le_succ_of_le ‹_›
          · rw [List.mem_singleton.mp z]; exact Nat.le_refl _
        · refine List.pairwise_append.mpr ⟨hpw,List.pairwise_singleton _ _,fun a ha b hb=>?_⟩
          rw [List.mem_singleton.mp hb]
          exact hws a ha
      · exact ⟨sm.trans s6,hD,s6 _ _ h5,⟨ws,ey,fun w' hw'=>by have:=hws w' hw'; exact Nat.le_succ_of_le ‹_›,hpw⟩,by exact Nat.le_succ_of_le ‹_›⟩
    rintro D5 ys H5 ⟨sm5,hD5,h5,⟨ws,ey,hws,hpw⟩,hl5⟩
    refine qq3 _ _ ?_
    subst ey
    have s5:=sm4.trans sm5
    refine (xr0 rfl ⟨.inl ⟨rfl,_,SqL.of (s5 _ _ l3)⟩,xr0 rfl (xr0 rfl (xn2 D5 _ ⟨rfl,.inl ⟨SqL.of h5,fun t ht=>⟨(by show 2≤sizeLine; decide),fun u hu=>?_⟩⟩⟩))⟩)
    have s7:=s5.trans ((same_new ht (.tup (ws.map fun (w:Nat)=>V.int (w:Int)))).trans (same_new hu (.tup [V.str mk,V.ref t])))
    have lu:us.length = i:=by rw [← len2]; exact (Paired.length pr3).symm
    have l7:=s7 _ _ l3
    refine ⟨l,us,V.ref u,rfl,rfl,l7,small1000 (by omega),k'+1,_,_,_,_,us++[V.ref u],pl++[(mk,ws)],rfl,fun b o eb hb=>?_,?_,upd_same,?_,by simp [len2],fun q hq=>?_⟩
    · rw [upd_ne (fun z=>by rw [z,hln] at eb; cases eb)]
      exact s7 _ _ (x3 _ _ (x2 _ _ eb hb) hb)
    · rw [upd_ne np.symm]
      exact s7 _ _ p3
    · have kk:∀ b xs,(upd (upd H5 t (.tup (ws.map fun (w:Nat)=>V.int (w:Int)))) u (.tup [V.str mk,V.ref t])) b = some (.tup xs)→(upd (upd (upd H5 t (.tup (ws.map fun (w:Nat)=>V.int (w:Int)))) u (.tup [V.str mk,V.ref t])) l (.lst (us++[V.ref u]))) b = some (.tup xs):=fun b xs e=>by
        rw [upd_ne (fun z=>by rw [z,l7] at e; cases e)]
        exact e
      refine pair_snoc ?_ (L2.Paired.mapP pr3 fun _ _ z=>(z.imp fun b xs e=>s7 _ _ e).imp kk)
      exact ⟨u,t,rfl,kk _ _ upd_same,kk _ _ (by rw [upd_ne (ne_of_none upd_same hu)]; exact upd_same)⟩
    · rcases List.mem_append.mp hq with z | z
      · exact all2 q z
      · rw [List.mem_singleton.mp z]
        exact ⟨hws,hpw⟩
  · rintro σ H2 ⟨k',z5,z6,z7,z8,us,pl,rfl,x2,p2,l2,pr2,len2,all2⟩
    refine (xr0 rfl ?_)
    have wa:=worldAt_of l2 pr2 fun q hq=>by rw [len2]; exact (all2 q hq).1
    refine q l H2 k' pl.length (woOf pl) us x2 hln p2 wa (by omega) (by omega) fun i=>?_
    have:((woOf pl).ws i).map Fin.val = pl[i.val].2:=by
      show (pl[i.val].2.filterMap _).map Fin.val = _
      rw [woOf_ws (fun w' hw'=>Nat.lt_of_lt_of_eq ((all2 _ (List.getElem_mem i.isLt)).1 w' hw') len2.symm)]
    rw [this]
    exact (all2 _ (List.getElem_mem i.isLt)).2
end
end Law

namespace L2
open PySem
def selfAt:Sy→Str→Bool
  | .mk b x,m=>Se.inM x m == b
  | .y0 b,_=>b
  | _,_=>false
theorem rises_lenQ {N:Nat}:∀ {l:List Nat} {a:Nat},l.Pairwise (· < ·)→(∀ w∈l,a≤w∧w < N)→l.length≤N - a
  | [],_,_,_=>Nat.zero_le _
  | w::l,a,hp,h=>by
    obtain ⟨h1,h2⟩:=List.pairwise_cons.mp hp
    have hw:=h w (by simp)
    have ih:=rises_lenQ (l:=l) (a:=w+1) h2 fun u hu=>⟨h1 u hu,(h u (List.mem_cons_of_mem _ hu)).2⟩
    rw [List.length_cons]
    omega
theorem rises_lenN {N:Nat} {W:Wo N} (h:W.rises) (i:Fin N):(W.ws i).length≤N:=by
  have z:=rises_lenQ (a:=0) (N:=N) (h i) fun w hw=>by
    obtain ⟨u,_,e⟩:=List.mem_map.mp hw
    rw [← e]
    exact ⟨Nat.zero_le _,u.isLt⟩
  rw [List.length_map] at z
  assumption
namespace Ha
abbrev NE:=Str→Nat
def putN (e:NE) (x:Str) (n:Nat):NE:=fun y=>if y = x then n else e y
def rows:Sy→Nat→NE→List (Sy×List Nat)
  | .y0 b,_,_=>[(.y0 b,[])]
  | .mk b x,_,_=>[(.mk b x,[])]
  | .nm x,_,e=>[(.nm x,[e x])]
  | .st b s,n,e=>(.st b s,[n+1])::rows s (n+1) e
  | .pr b s t,n,e=>(.pr b s t,[n+1,n+1+s.size])::(rows s (n+1) e++rows t (n+1+s.size) e)
  | .bn b x s,n,e=>(.bn b x s,[n+1])::rows s (n+1) (putN e x n)
theorem rows_len:∀ (s:Sy) (n:Nat) (e:NE),(rows s n e).length = s.size
  | .y0 _,_,_=>rfl | .mk _ _,_,_=>rfl | .nm _,_,_=>rfl
  | .st _ s,n,e=>by simp [rows,Sy.size,rows_len s]
  | .pr _ s t,n,e=>by simp [rows,Sy.size,rows_len s,rows_len t]
  | .bn _ _ s,n,e=>by simp [rows,Sy.size,rows_len s]
def Led (M:Nat) (p:Sy×List Nat):Prop:=(∀ l∈p.2,l < M)∧p.2.Pairwise (· < ·)∧p.2.length≤2∧((∃ b u,p.1 = .st b u)→p.2≠[])∧(p.2 = []→(∃ b,p.1 = .y0 b)∨∃ b x,p.1 = .mk b x)
theorem rows_led {M:Nat}:∀ {s:Sy} {B:List Str} {n:Nat} {e:NE},s.ok B→(∀ x∈B,e x < M)→n+s.size≤M→∀ p∈rows s n e,Led M p
  | .y0 b,_,_,_,_,_,_,p,hp=>by
    rw [List.mem_singleton.mp (show p∈[_] from hp)]
    exact ⟨fun l hl=>by (cases hl),.nil,by simp,fun ⟨_,_,z⟩=>by (cases z),fun _=>.inl ⟨b,rfl⟩⟩
  | .mk b x,_,_,_,_,_,_,p,hp=>by
    rw [List.mem_singleton.mp (show p∈[_] from hp)]
    exact ⟨fun l hl=>by (cases hl),.nil,by simp,fun ⟨_,_,z⟩=>by (cases z),fun _=>.inr ⟨b,x,rfl⟩⟩
  | .nm x,_,_,_,hok,he,_,p,hp=>by
    rw [List.mem_singleton.mp (show p∈[_] from hp)]
    exact ⟨fun l hl=>by rw [List.mem_singleton.mp hl]; exact he x hok,List.pairwise_singleton _ _,by simp,fun _=>by simp,fun z=>by simp at z⟩
  | .st b s,B,n,e,hok,he,hn,p,hp=>by
    have sp:=s.size_pos
    simp only [Sy.size] at hn
    rcases List.mem_cons.mp (show p∈_::_ from hp) with rfl | h
    · exact ⟨fun l hl=>by rw [List.mem_singleton.mp hl]; omega,List.pairwise_singleton _ _,by simp,fun _=>by simp,fun z=>by simp at z⟩
    · exact rows_led (s:=s) hok he (by omega) p h
  | .pr b s t,B,n,e,hok,he,hn,p,hp=>by
    have sp:=s.size_pos
    have tp:=t.size_pos
    simp only [Sy.size] at hn
    rcases List.mem_cons.mp (show p∈_::_ from hp) with rfl | h
    · refine ⟨fun l hl=>?_,by simp; assumption,by simp,fun _=>by simp,fun z=>by simp at z⟩
      simp at hl
      omega
    · rcases List.mem_append.mp h with h | h
      · exact rows_led (s:=s) hok.1 he (by omega) p h
      · exact rows_led (s:=t) hok.2 he (by omega) p h
  | .bn b x s,B,n,e,hok,he,hn,p,hp=>by
    have sp:=s.size_pos
    simp only [Sy.size] at hn
    rcases List.mem_cons.mp (show p∈_::_ from hp) with rfl | h
    · exact ⟨fun l hl=>by rw [List.mem_singleton.mp hl]; omega,List.pairwise_singleton _ _,by simp,fun _=>by simp,fun z=>by simp at z⟩
    · refine rows_led (s:=s) hok.2.2 (fun y hy=>?_) (by omega) p h
      unfold putN
      split
      · omega
      · rename_i hne
        rcases List.mem_append.mp hy with z | z
        · exact he y z
        · exact absurd (List.mem_singleton.mp z) hne
def grank:Sy→Nat
  | .bn b _ s=>if b = true then grank s+1 - grank s % 2 else grank s+grank s % 2
  | .st _ s=>grank s
  | .pr _ s t=>max (grank s) (grank t)
  | _=>0
def inner (s:Sy):Nat:=(s.subs.map grank).foldr max 0
theorem grank_inner (s:Sy):grank s = (match s with | .bn b _ _=>if b = true then inner s+1 - inner s % 2 else inner s+inner s % 2 | _=>inner s):=by
  cases s<;>simp [grank,inner,Sy.subs]
theorem foldr_max {ns:List Nat}:ns = []∧ns.foldr max 0 = 0∨(ns≠[]∧ns.foldr max 0∈ns∧∀ a∈ns,a≤ns.foldr max 0):=by
  induction ns with
  | nil=>exact .inl ⟨rfl,rfl⟩
  | cons a l ih =>
    refine .inr ⟨by simp,?_,?_⟩
    · rcases ih with ⟨rfl,_⟩ | ⟨_,h,_⟩
      · simp
      · rw [List.foldr_cons]
        rcases Nat.le_total a (l.foldr max 0) with z | z
        · rw [Nat.max_eq_right z]; exact List.mem_cons_of_mem _ h
        · rw [Nat.max_eq_left z]; simp
    · intro b hb
      rw [List.foldr_cons]
      rcases List.mem_cons.mp hb with rfl | hb
      · exact Nat.le_max_left _ _
      · rcases ih with ⟨rfl,_⟩ | ⟨_,_,h⟩
        · cases hb
        · exact Nat.le_trans (h b hb) (Nat.le_max_right _ _)
def hand:Sy→Nat
  | .pr true _ _=>1 | .st false _=>1 | _=>0
def rk:Sy→Nat
  | .bn b x s=>grank (.bn b x s) | _=>0
def endH:Sy→Str→Bool
  | .st false _,_=>true | s,m=>selfAt s m
section
variable {N:Nat}
def ways (W:Wo N) (i:Fin N) (p:Sy×List Nat) (M:Nat):List Nat:=match p.1 with
  | .st _ _=>(W.ws i).map fun w=>w.val*M+p.2.headD 0
  | _=>p.2.map fun l=>i.val*M+l
def room (W:Wo N) (i:Fin N) (p:Sy×List Nat) (M o:Nat):Mi.Room :=
  if ways W i p M = [] then (0,if endH p.1 (W.ma i) = true then 0 else 1,[(o:Int)]) else ((hand p.1:Int),(rk p.1:Int),(ways W i p M).map fun (w:Nat)=>(w:Int))
def rooms (W:Wo N) (i:Fin N) (ps:List (Sy×List Nat)) (M:Nat):List Mi.Room:=(List.range ps.length).map fun j=>room W i (ps.getD j (.y0 true,[])) M (i.val*M+j)
def hallTo (W:Wo N) (ps:List (Sy×List Nat)) (M:Nat):Nat→List Mi.Room
  | 0=>[]
  | i+1=>hallTo W ps M i++(if h:i < N then rooms W ⟨i,h⟩ ps M else [])
theorem hall_len {W:Wo N} {ps:List (Sy×List Nat)}:∀ {i:Nat},i≤N→(hallTo W ps ps.length i).length = i*ps.length
  | 0,_=>by simp [hallTo]
  | i+1,h=>by
    have ih:=hall_len (W:=W) (ps:=ps) (i:=i) (by exact Nat.le_of_lt ‹_›)
    rw [hallTo,List.length_append,ih,dif_pos (by assumption)]
    simp [rooms,Nat.succ_mul]
theorem mul_lt {i N M l:Nat} (hi:i < N) (hl:l < M):i*M+l < N*M:=by
  have:(i+1)*M≤N*M:=Nat.mul_le_mul_right M hi
  rw [Nat.succ_mul] at this
  omega
end
end Ha
end L2

namespace L2
open PySem
namespace Ha
def leadsL:List Sy→Nat→List Nat
  | [],_=>[] | s::r,n=>n::leadsL r (n+s.size)
def rowsL:List Sy→Nat→NE→List (Sy×List Nat)
  | [],_,_=>[] | s::r,n,e=>rows s n e++rowsL r (n+s.size) e
theorem rowsL_len:∀ (l:List Sy) (n:Nat) (e:NE),(rowsL l n e).length = (l.map Sy.size).sum
  | [],_,_=>rfl
  | s::r,n,e=>by simp [rowsL,rows_len,rowsL_len r]
theorem leadsL_snoc:∀ (l:List Sy) (s:Sy) (n:Nat),leadsL (l++[s]) n = leadsL l n++[n+(l.map Sy.size).sum]
  | [],s,n=>by simp [leadsL]
  | u::r,s,n=>by simp [leadsL,leadsL_snoc r,Nat.add_assoc]
theorem rowsL_snoc:∀ (l:List Sy) (s:Sy) (n:Nat) (e:NE),rowsL (l++[s]) n e = rowsL l n e++rows s (n+(l.map Sy.size).sum) e
  | [],s,n,e=>by simp [rowsL]
  | u::r,s,n,e=>by simp [rowsL,rowsL_snoc r,Nat.add_assoc]
theorem leadsL_len:∀ (l:List Sy) (n:Nat),(leadsL l n).length = l.length
  | [],_=>rfl
  | s::r,n=>by simp [leadsL,leadsL_len r]
def into (s:Sy) (n:Nat) (e:NE):NE:=match s with
  | .bn _ x _=>putN e x n | _=>e
theorem rows_eq {s:Sy} (h:∀ x,s≠.nm x) (n:Nat) (e:NE):rows s n e = (s,leadsL s.subs (n+1))::rowsL s.subs (n+1) (into s n e):=by
  cases s with
  | nm x=>exact absurd rfl (h x)
  | _=>simp [rows,leadsL,rowsL,Sy.subs,into]
end Ha
def NumAt (H:Hp) (d:Addr) (B:List Str) (e:Ha.NE):Prop:=∃ kvs:List (Key×V),H d = some (.dK kvs)∧kvs.length≤B.length∧∀ x∈B,valV kvs (.inr x) = some (.int (e x:Int))
theorem NumAt.same {H H':Hp} {d:Addr} {B:List Str} {e:Ha.NE} (h:NumAt H d B e) (k:Same H H'):NumAt H' d B e:=by
  obtain ⟨kvs,h1,h2⟩:=h
  exact ⟨kvs,k _ _ h1,h2⟩
theorem NumAt.put {H:Hp} {d:Addr} {B:List Str} {e:Ha.NE} {x:Str} {n:Nat} {kvs:List (Key×V)} (hl:kvs.length≤B.length) (hx:x∉B) (hk:∀ y∈B,valV kvs (.inr y) = some (.int (e y:Int))) (h:H d = some (.dK (putK kvs (.inr x) (.int (n:Int))))):NumAt H d (B++[x]) (Ha.putN e x n):=by
  refine ⟨_,h,?_,fun y hy=>?_⟩
  · have:=putK_len kvs (.inr x) (.int (n:Int))
    simp
    omega
  · rw [valV_put]
    by_cases hyx:y = x
    · subst hyx
      rw [if_pos rfl]
      simp [Ha.putN]
    · have hyB:y∈B:=by
        rcases List.mem_append.mp hy with z | z
        · exact z
        · exact absurd (List.mem_singleton.mp z) hyx
      rw [if_neg (fun z=>hyx (by injection z)),hk y hyB]
      simp [Ha.putN,hyx]
def natsV (ls:List Nat):List V:=ls.map fun (n:Nat)=>V.int (n:Int)
def PartAt (tp:Bool) (H:Hp) (p:Sy×List Nat) (v:V):Prop:=∃ pa qa sv,v = .ref pa∧H pa = some (.tup [sv,.ref qa])∧SyAt H p.1 sv∧H qa = some (if tp = true then .tup (natsV p.2) else .lst (natsV p.2))
theorem PartAt.same {tp:Bool} {H H':Hp} {p:Sy×List Nat} {v:V} (h:PartAt tp H p v) (k:Same H H'):PartAt tp H' p v:=by
  obtain ⟨pa,qa,sv,e,h1,h2,h3⟩:=h
  exact ⟨pa,qa,sv,e,k _ _ h1,h2.same k,k _ _ h3⟩
theorem PartAt.imp {H H':Hp} {p:Sy×List Nat} {v:V} (h:PartAt true H p v) (k:∀ a xs,H a = some (.tup xs)→H' a = some (.tup xs)):PartAt true H' p v:=by
  obtain ⟨pa,qa,sv,e,h1,h2,h3⟩:=h
  exact ⟨pa,qa,sv,e,k _ _ h1,h2.imp k,k _ _ h3⟩
theorem pair_append {α:Type} {F:α→V→Prop}:∀ {l m:List α} {xs ys:List V},Paired F l xs→Paired F m ys→Paired F (l++m) (xs++ys)
  | _,_,_,_,.nil,q=>q
  | _,_,_,_,.cons h t,q=>.cons h (pair_append t q)
end L2

namespace L2
open PySem
end L2
namespace L2
namespace Sy
theorem kind_st {s:Sy} (h:s.kind∈(["some","every"]:List PySem.Str)):∃ b u,s = .st b u:=by
  cases s with
  | nm x=>exact absurd h (by simp only [kind]; decide)
  | y0 b=>cases b<;>exact absurd h (by simp only [kind]; decide)
  | mk b x=>cases b<;>exact absurd h (by simp only [kind]; decide)
  | st b x=>exact ⟨b,x,rfl⟩
  | pr b x y=>cases b<;>exact absurd h (by simp only [kind]; decide)
  | bn b x y=>cases b<;>exact absurd h (by simp only [kind]; decide)
theorem kind_pr {s:Sy} (h:s.kind∈(["both","either"]:List PySem.Str)):∃ b u t,s = .pr b u t:=by
  cases s with
  | nm x=>exact absurd h (by simp only [kind]; decide)
  | y0 b=>cases b<;>exact absurd h (by simp only [kind]; decide)
  | mk b x=>cases b<;>exact absurd h (by simp only [kind]; decide)
  | st b x=>cases b<;>exact absurd h (by simp only [kind]; decide)
  | pr b x y=>exact ⟨b,x,y,rfl⟩
  | bn b x y=>cases b<;>exact absurd h (by simp only [kind]; decide)
theorem st_kind (b:Bool):k2 b∈(["some","every"]:List PySem.Str):=by cases b<;>decide
theorem pr_kind (b:Bool):k3 b∈(["both","either"]:List PySem.Str):=by cases b<;>decide
end Sy
theorem rises_len {N:Nat}:∀ {l:List Nat} {a:Nat},l.Pairwise (· < ·)→(∀ w∈l,a≤w∧w < N)→l.length≤N - a
  | [],_,_,_=>Nat.zero_le _
  | w::l,a,hp,h=>by
    obtain ⟨h1,h2⟩:=List.pairwise_cons.mp hp
    have hw:=h w (by simp)
    have ih:=rises_len (l:=l) (a:=w+1) h2 fun u hu=>⟨h1 u hu,(h u (List.mem_cons_of_mem _ hu)).2⟩
    rw [List.length_cons]
    omega
theorem Wo.ways_len {N:Nat} {W:Wo N} (h:W.rises) (i:Fin N):(W.ws i).length≤N:=by
  have z:=rises_len (a:=0) (N:=N) (h i) fun w hw=>by
    obtain ⟨u,_,e⟩:=List.mem_map.mp hw
    rw [← e]
    exact ⟨Nat.zero_le _,u.isLt⟩
  rw [List.length_map] at z
  assumption
theorem take_all {α:Type} {l:List α} {n:Nat} (h:l.length = n):l.take n = l:=by rw [← h]; exact List.take_length
end L2
namespace Law
open PySem L2
section
seal PA PE PS PSs PT PI PG PGs PIf
variable {P:Program} {w:World} {K:PySem.W.Frag} {mg:Str→Option Value} {base:Heap} {f g:Addr} {fd gd:FuncData}
def spLedOn (K:PySem.W.Frag):Sp:=fun vs H Q _=>∃ (b:Bool) (l:Addr) (bs:List Bool),vs = [.str (Sy.k2 b),.ref l]∧SqL K H l (bs.map V.bl)∧Q (.bl (if b = true then bs.any id else bs.all id)) H
theorem scLedOn:FnScope ["kind","found"] ["kind","found"] (defScope sLedOn):=⟨rfl,rfl,rfl,by decide +kernel,rfl,by decide +kernel,by decide +kernel⟩
theorem ok_ledon (F:Fun K "led_on" "led_on" sLedOn f fd) (man:mg "any" = none) (mal:mg "all" = none):FnOk P w K mg base CX0 1 f fd ["kind","found"] (spLedOn K):=by
  refine F.ok scLedOn (fun vs H Q E h=>?_) (fun cdv A outer s H vs Q E hr h=>?_)
  · refine xe3 h fun b l bs y56=>?_
    obtain ⟨rfl,_⟩:=y56
    rfl
  refine xe3 h fun b l bs y58=>?_
  obtain ⟨rfl,hl,q⟩:=y58
  refine ⟨_,pss_one (ps_ret (pe_ifExp (pt_cmpR op_eq (pv 0) pe_str (nomark _)) (pe_callB (call_anyB rfl) rfl man PyProof.Rows.boot_any (pa_cons (pv 1) pa_nil)) (pe_callB (call_allB rfl) rfl mal PyProof.Rows.boot_all (pa_cons (pv 1) pa_nil)))),?_⟩
  first | dsimp only [nxK,nxP,nxW] | skip
  refine (xr0 rfl ⟨rfl,xr0 rfl (ifS (fun e=>?_) (fun e=>?_))⟩)
  · cases b with
    | true=>exact (xr0 rfl (xn2 l bs ⟨rfl,hl,q⟩))
    | false=>exact absurd e (by decide)
  · cases b with
    | true=>exact absurd rfl e
    | false=>exact (xr0 rfl (xn2 l bs ⟨rfl,hl,q⟩))
def spByItself:Sp:=fun vs H Q _=>∃ (v:V) (s:Sy) (m:Str),vs = [v,.str m]∧SyAt H s v∧((∃ b,s = .y0 b)∨∃ b x,s = .mk b x)∧Q (.bl (selfAt s m)) H
theorem scByItself:FnScope ["saying","marks"] ["saying","marks"] (defScope sByItself):=⟨rfl,rfl,rfl,by decide +kernel,rfl,by decide +kernel,by decide +kernel⟩
def spHold (D:Nat):Sp:=fun vs H Q _=>∃ (N:Nat) (l d:Addr) (W:Wo N) (us:List V) (v:V) (s:Sy) (B:List Str) (e:En N),vs = [.ref l,v,.ref d]∧WorldAt H l W us∧SyAt H s v∧EnvAt H d B e∧s.ok B∧s.depth≤D∧B.length+D≤900∧N≤900∧W.rises ∧
  ∀ r H',Same H H'→H r = none→H' r = some (.lst (tr (Se.hold W s e)))→Q (.ref r) H'
def spClosed (D:Nat):Sp:=fun vs H Q _=>∃ (N:Nat) (l d:Addr) (W:Wo N) (us:List V) (v:V) (b:Bool) (x:Str) (u:Sy) (B:List Str) (e:En N),vs = [.ref l,v,.ref d]∧WorldAt H l W us∧SyAt H (.bn b x u) v∧EnvAt H d B e∧(Sy.bn b x u).ok B∧(Sy.bn b x u).depth≤D∧B.length+D≤900∧N≤900∧W.rises ∧
  ∀ r H',Same H H'→H r = none→H' r = some (.lst (tr (Se.hold W (.bn b x u) e)))→Q (.ref r) H'
theorem scHold:FnScope ["world","saying","named","kind","inner","left","right"] ["world","saying","named"] (defScope sHolding):=⟨rfl,rfl,rfl,by decide +kernel,rfl,by decide +kernel,by decide +kernel⟩
theorem ndMWIK:(["marks","ways","inner","kind"]:List Str).Nodup:=by decide +kernel
theorem ndWI:(["way","inner"]:List Str).Nodup:=by decide +kernel
theorem ndOT:(["one","two"]:List Str).Nodup:=by decide +kernel
theorem ndMWS:(["marks","ways","saying"]:List Str).Nodup:=by decide +kernel
theorem ok_hold (F:Fun K "holding" "holding" sHolding f fd) {D:Nat} {fC fL fB aB:Addr} {dC dL dB:FuncData} (ih:FnOk P w K mg base CX0 (2+2*D) f fd ["world","saying","named"] (spHold D)) (bH:Binds K fd ["world","saying","named"] []) (kH:PySem.W.keepIn K (.ref f) = true) (mH:mg "holding" = some (.ref f))
    (GC:FnOk P w K mg base CX0 (3+2*D) fC dC ["world","saying","named"] (spClosed (D+1))) (bC:Binds K dC ["world","saying","named"] []) (kC:PySem.W.keepIn K (.ref fC) = true) (mC:mg "closed" = some (.ref fC))
    (GL:FnOk P w K mg base CX0 1 fL dL ["kind","found"] (spLedOn K)) (bL:Binds K dL ["kind","found"] []) (kL:PySem.W.keepIn K (.ref fL) = true) (mL:mg "led_on" = some (.ref fL))
    (GB:FnOk P w K mg base CX0 1 fB dB ["saying","marks"] spByItself) (bB:Binds K dB ["saying","marks"] []) (kB:PySem.W.keepIn K (.ref fB) = true) (mB:mg "holds_by_itself" = some (.ref fB))
    (mBi:mg "BINDERS" = some (.ref aB)) (kBi:∀ H,SqT K H aB ((["least","most"]:List Str).map V.str)) (mli:mg "list" = none) (mz:mg "zip" = none) :
    FnOk P w K mg base CX0 (3+2*D+1) f fd ["world","saying","named"] (spHold (D+1)):=by
  refine F.ok scHold (fun vs H Q E h=>?_) (fun cdv A outer s H vs Q E hr h=>?_)
  · obtain ⟨N,l,d,W,us,v,s,B,e,rfl,_⟩:=h
    rfl
  obtain ⟨N,l,d,W,us,v,s,B,e,rfl,hW,hs,he,hok,hd,hBD,hN,hri,q⟩:=id h
  have hr1:L2.Room 1 _:=hr.mono (by omega)
  have hr2:L2.Room (2+2*D) _:=hr.mono (by omega)
  have hu:_+1 < cLine:=Nat.lt_of_le_of_lt (Nat.add_le_add_left (by decide:1≤64) _) hr.units
  refine ⟨_,pss_cons (ps_set (i:=3) scHold.nd rfl (Or.inr rfl) (pe_ix ix_tup (pv 1) pe_int (fun _ _=>rfl)))
    (pss_cons (ps_if (pt_cmpR op_eq (pv 3) pe_str (nomark _)) (pss_one (ps_ret (pe_callTy call_list_of rfl mli PyProof.Rows.boot_list (pa_cons (pe_dget hu (pv 2) (pe_ix ix_tup (pv 1) pe_int (fun _ _=>rfl)) (fun _ _=>rfl)) pa_nil)))) pss_nil)
    (pss_cons (ps_if (pt_cmpR op_in_seq (pv 3) (pe_glob (v:=.ref aB) rfl mBi rfl) rfl) (pss_one (ps_ret (pe_call GC hr rfl mC kC bC .nil pass0 (pa_cons (pv 0) (pa_cons (pv 1) (pa_cons (pv 2) pa_nil)))))) pss_nil)
    (pss_cons (ps_if (pt_cmpR op_in_seq (pv 3) (pe_tup (pa_cons pe_str (pa_cons pe_str pa_nil))) rfl)
      (pss_cons (ps_set (i:=4) scHold.nd rfl (Or.inr rfl) (pe_call ih hr2 rfl mH kH bH .nil pass0 (pa_cons (pv 0) (pa_cons (pe_ix ix_tup (pv 1) pe_int (fun _ _=>rfl)) (pa_cons (pv 2) pa_nil)))))
      (pss_one (ps_ret (pe_comp (N:=["marks","ways","inner","kind"]) (capt:=[none,none,some 4,some 3]) rfl (pi_list (pv 0)) rfl (by repeat (first | exact .nil | refine .cons rfl ?_))
        (by repeat (first | exact .nil | refine .skip (by decide) (by decide) ?_ | refine .free ⟨_,rfl⟩ ?_)) (.tgt (.tgt (.var rfl (.inl rfl) ⟨_,rfl⟩ (.inl rfl) (.var rfl (.inl rfl) ⟨_,rfl⟩ (.inl rfl) .nil))))
        (fun _ _ _ _ _=>pgT K (n:=2) rfl (pgs_cons (pg_name (i:=0) ndMWIK rfl (Or.inl rfl)) (pgs_cons (pg_name (i:=1) ndMWIK rfl (Or.inl rfl)) pgs_nil))) (fun _ _ _ _ _=>pif_nil)
        (fun _ _ _ _ _=>pe_call GL hr1 rfl mL kL bL .nil pass0 (pa_cons (pv 3) (pa_cons (pe_comp (N:=["way","inner"]) (capt:=[none,some 2]) rfl (piT K (pv 1)) rfl (by repeat (first | exact .nil | refine .cons rfl ?_))
          (by repeat (first | exact .nil | refine .skip (by decide) (by decide) ?_ | refine .free ⟨_,rfl⟩ ?_)) (.tgt (.var rfl (.inl rfl) ⟨_,rfl⟩ (.inl rfl) .nil))
          (fun _ _ _ _ _=>pg_name (i:=0) ndWI rfl (Or.inl rfl)) (fun _ _ _ _ _=>pif_nil)
          (fun _ _ _ _ _=>pe_ix (ixL K) (pv 1) (pv 0) (fun _ _=>rfl))) pa_nil))))))) pss_nil)
    (pss_cons (ps_if (pt_cmpR op_in_seq (pv 3) (pe_tup (pa_cons pe_str (pa_cons pe_str pa_nil))) rfl)
      (pss_cons (ps_set (i:=5) scHold.nd rfl (Or.inl rfl) (pe_call ih hr2 rfl mH kH bH .nil pass0 (pa_cons (pv 0) (pa_cons (pe_ix ix_tup (pv 1) pe_int (fun _ _=>rfl)) (pa_cons (pv 2) pa_nil)))))
      (pss_cons (ps_set (i:=6) scHold.nd rfl (Or.inl rfl) (pe_call ih hr2 rfl mH kH bH .nil pass0 (pa_cons (pv 0) (pa_cons (pe_ix ix_tup (pv 1) pe_int (fun _ _=>rfl)) (pa_cons (pv 2) pa_nil)))))
      (pss_cons (ps_if (pt_cmpR op_eq (pv 3) pe_str (nomark _)) (pss_one (ps_ret (pe_comp (N:=["one","two"]) (capt:=[none,none]) rfl (pi_zip rfl mz (pa_cons (pv 5) (pa_cons (pv 6) pa_nil))) rfl (by repeat (first | exact .nil | refine .cons rfl ?_))
          (by repeat (first | exact .nil | refine .skip (by decide) (by decide) ?_ | refine .free ⟨_,rfl⟩ ?_)) (.tgt (.tgt .nil))
          (fun _ _ _ _ _=>pgT K (n:=2) rfl (pgs_cons (pg_name (i:=0) ndOT rfl (Or.inl rfl)) (pgs_cons (pg_name (i:=1) ndOT rfl (Or.inl rfl)) pgs_nil))) (fun _ _ _ _ _=>pif_nil)
          (fun _ _ _ _ _=>pe_and (pv 0) (pe_one (pv 1)))))) pss_nil)
      (pss_one (ps_ret (pe_comp (N:=["one","two"]) (capt:=[none,none]) rfl (pi_zip rfl mz (pa_cons (pv 5) (pa_cons (pv 6) pa_nil))) rfl (by repeat (first | exact .nil | refine .cons rfl ?_))
          (by repeat (first | exact .nil | refine .skip (by decide) (by decide) ?_ | refine .free ⟨_,rfl⟩ ?_)) (.tgt (.tgt .nil))
          (fun _ _ _ _ _=>pgT K (n:=2) rfl (pgs_cons (pg_name (i:=0) ndOT rfl (Or.inl rfl)) (pgs_cons (pg_name (i:=1) ndOT rfl (Or.inl rfl)) pgs_nil))) (fun _ _ _ _ _=>pif_nil)
          (fun _ _ _ _ _=>pe_or (pv 0) (pe_one (pv 1))))))))) pss_nil)
    (pss_one (ps_ret (pe_comp (N:=["marks","ways","saying"]) (capt:=[none,none,some 1]) rfl (pi_list (pv 0)) rfl (by repeat (first | exact .nil | refine .cons rfl ?_))
        (by repeat (first | exact .nil | refine .skip (by decide) (by decide) ?_ | refine .free ⟨_,rfl⟩ ?_)) (.tgt (.tgt (.var rfl (.inl rfl) ⟨_,rfl⟩ (.inl rfl) .nil)))
        (fun _ _ _ _ _=>pgT K (n:=2) rfl (pgs_cons (pg_name (i:=0) ndMWS rfl (Or.inl rfl)) (pgs_cons (pg_name (i:=1) ndMWS rfl (Or.inl rfl)) pgs_nil))) (fun _ _ _ _ _=>pif_nil)
        (fun _ _ _ _ _=>pe_call GB hr1 rfl mB kB bB .nil pass0 (pa_cons (pv 2) (pa_cons (pv 0) pa_nil)))))))))),?_⟩
  first | dsimp only [nxK,nxP,nxW] | skip
  refine xe2 (hs.args) fun a xs y159=>?_
  obtain ⟨rfl,ha,pr⟩:=y159
  refine seqK fun kk1 qq1=>?_
  refine (xr0 rfl (xn4 a _ _ _ ⟨rfl,rfl,SqT.of ha,at0,?_⟩))
  refine qq1 _ _ ?_
  refine seqK fun kk2 qq2=>?_
  refine (xr0 rfl ⟨rfl,xr0 rfl (ifS (fun e1=>?_) (fun ne=>?_))⟩)
  · obtain ⟨x,rfl⟩:=Sy.kind_name e1
    cases pr with
    | cons p1 pr=>cases pr with
      | nil =>
        cases p1
        obtain ⟨kvs,hk,hkl,hx⟩:=he
        obtain ⟨lx,v1,v2⟩:=hx x hok
        have dg:=DGet.k (k:=.inr x) hk
        rw [v1] at dg
        exact (xr0 rfl (xr0 rfl (xn4 a _ _ _ ⟨rfl,rfl,SqT.of ha,at1,d,_,rfl,dg,lx,_,rfl,.inl (SqL.of v2),fun r hr'=>q r _ (same_new hr' _) hr' upd_same⟩)))
  refine qq2 _ _ ?_
  refine seqK fun kk3 qq3=>?_
  refine (xr0 rfl (xn2 aB _ ⟨rfl,.inr (kBi _),rfl,flatS _,xr0 rfl ?_⟩))
  rw [inS]
  by_cases hk:s.kind∈(["least","most"]:List Str)
  · rw [decide_eq_true hk]
    refine xe3 (Sy.kind_bind hk) fun bb x u y181=>?_
    obtain rfl:=y181
    exact iteT (xr0 rfl (xr0 rfl (xr0 rfl ⟨N,l,d,W,us,_,bb,x,u,B,e,rfl,hW,hs,he,hok,hd,hBD,hN,hri,q⟩)))
  rw [decide_eq_false hk]
  refine iteF ?_
  refine qq3 _ _ ?_
  refine seqK fun kk4 qq4=>?_
  refine (xr0 rfl ⟨(by show 2≤sizeLine; decide),fun t ht=>?_⟩)
  have s1:=same_new ht (.tup [V.str "some",V.str "every"])
  generalize hH1:upd H t (.tup [V.str "some",V.str "every"]) = H1 at s1
  have e1:H1 t = some (.tup ((["some","every"]:List Str).map V.str)):=by rw [← hH1]; exact upd_same
  refine (xn2 t _ ⟨rfl,.inr (SqT.of e1),rfl,flatS _,xr0 rfl ?_⟩)
  rw [inS]
  by_cases hk2:s.kind∈(["some","every"]:List Str)
  · rw [decide_eq_true hk2]
    refine xe2 (Sy.kind_st hk2) fun bb u y195=>?_
    obtain rfl:=y195
    cases pr with
    | cons p1 pr=>cases pr with
      | nil =>
        have hu':SyAt H u _:=p1
        have du:=Sy.depth_subs (s:=.st bb u) (u:=u) (by simp [Sy.subs])
        refine iteT (xr0 rfl (xr0 rfl (xn4 a _ _ _ ⟨rfl,rfl,SqT.of (s1 _ _ ha),at1,_,rfl,N,l,d,W,us,_,u,B,e,rfl,hW.same s1,hu'.same s1,he.same s1,hok,by exact Nat.le_of_succ_le_succ ‹_›,by exact Nat.le_of_lt ‹_›,hN,hri,fun r1 H2 s2 _ hr1=>?_⟩)))
        have s2':=s1.trans s2
        have hW2:=hW.same s2'
        refine (xr0 rfl ⟨l,rfl,⟨_,SqL.of hW2.lst⟩,?_⟩)
        refine comp_list (K:=K) (a:=l) (xs:=us) (fun C i ys H3=>Same H2 H3∧H2 C = none∧H3 C = some (.lst ys)∧ys = (tr (Se.hold W (.st bb u) e)).take i) ?_ ?_ ?_ ?_
        · exact fun C hC=>⟨same_new hC _,hC,upd_same,by simp⟩
        · rintro C i ys H3 hi ⟨sm,hC,h3,ey⟩
          refine ⟨SqL.of (sm _ _ hW2.lst),h3,fun _=>?_⟩
          rw [ey]
          refine small1000 ?_
          rw [List.length_take,tr_len]
          omega
        · rintro C i x ys H3 hx ⟨sm,hC,h3,ey⟩
          have hi:i < N:=by rw [← hW.len]; exact (List.getElem?_eq_some_iff.mp hx).1
          obtain ⟨v',ev,pa,qa,rfl,hpa,hqa⟩:=(hW2.same sm).at' ⟨i,hi⟩
          have ex:V.ref pa = x:=Option.some.inj (ev.symm.trans hx)
          subst ex
          refine (xn2 pa _ ⟨rfl,SqT.of hpa,rfl,_,_,rfl,_,_,rfl,rfl,⟨rfl,rfl,trivial⟩,?_⟩)
          refine (xr0 rfl (xr0 rfl ⟨qa,rfl,⟨_,SqT.of hqa⟩,?_⟩))
          refine comp_tup (K:=K) (a:=qa) (xs:=((W.ws ⟨i,hi⟩).map Fin.val).map fun (w:Nat)=>V.int (w:Int)) (fun C2 j zs H4=>Same H3 H4∧H3 C2 = none∧H4 C2 = some (.lst zs)∧zs = (((W.ws ⟨i,hi⟩).take j).map (Se.hold W u e)).map V.bl) ?_ ?_ ?_ ?_
          · exact fun C2 hC2=>⟨same_new hC2 _,hC2,upd_same,rfl⟩
          · rintro C2 j zs H4 hj ⟨sm4,hC2,h4,ez⟩
            refine ⟨SqT.of (sm4 _ _ hqa),h4,fun hlt=>?_⟩
            rw [ez]
            simp only [List.length_map] at hlt hj ⊢
            rw [List.length_take]
            have hz:=Wo.ways_len hri ⟨i,hi⟩
            refine small1000 ?_
            omega
          · rintro C2 j y zs H4 hy ⟨sm4,hC2,h4,ez⟩
            rw [List.getElem?_map,List.getElem?_map] at hy
            obtain ⟨n,en,ey'⟩:=Option.map_eq_some_iff.mp hy
            obtain ⟨wv,ew,en'⟩:=Option.map_eq_some_iff.mp en
            subst ey' en'
            have k4:=(sm.trans sm4) _ _ hr1
            refine ⟨⟨rfl,trivial⟩,_,rfl,_,rfl,r1,_,_,_,rfl,rfl,SqL.of k4,atI_nat (tr_get (Se.hold W u e) wv.val wv.isLt),h4,fun b o eb=>?_,hC2,upd_same,?_⟩
            · rw [upd_ne (ne_of_none eb hC2)]
              exact sm4 b o eb
            · obtain ⟨hj,ej⟩:=List.getElem?_eq_some_iff.mp ew
              rw [ez,List.take_succ_eq_append_getElem hj,ej]
              simp
          · rintro C2 zs H4 ⟨sm4,hC2,h4,ez⟩
            rw [List.length_map,List.length_map,List.take_length] at ez
            subst ez
            refine (xn3 bb C2 _ ⟨rfl,SqL.of h4,sm4 _ _ h3,fun b o eb=>?_,hC,upd_same,?_⟩)
            · rw [upd_ne (ne_of_none eb hC)]
              exact sm4 _ _ (sm b o eb)
            · rw [ey,tr_take _ i hi]
              congr 2
              show V.bl _ = V.bl (if bb = true then _ else _)
              rw [List.any_map,List.all_map]
              rfl
        · rintro C ys H3 ⟨sm,hC,h3,ey⟩
          rw [take_all ((tr_len _).trans hW.len.symm)] at ey
          exact q C H3 (s2'.trans sm) (s2'.free hC) (by rw [h3,ey])
  rw [decide_eq_false hk2]
  refine iteF ?_
  refine qq4 _ _ ?_
  refine seqK fun kk5 qq5=>?_
  refine (xr0 rfl ⟨(by show 2≤sizeLine; decide),fun t2 ht2=>?_⟩)
  have s2:=s1.trans (same_new ht2 (.tup [V.str "both",V.str "either"]))
  generalize hH2:upd H1 t2 (.tup [V.str "both",V.str "either"]) = H2 at s2
  have e2:H2 t2 = some (.tup ((["both","either"]:List Str).map V.str)):=by rw [← hH2]; exact upd_same
  refine (xn2 t2 _ ⟨rfl,.inr (SqT.of e2),rfl,flatS _,xr0 rfl ?_⟩)
  rw [inS]
  by_cases hk3:s.kind∈(["both","either"]:List Str)
  · rw [decide_eq_true hk3]
    refine xe3 (Sy.kind_pr hk3) fun bb u u2 y268=>?_
    obtain rfl:=y268
    cases pr with
    | cons p1 pr=>cases pr with
      | cons p2 pr=>cases pr with
        | nil =>
          have hu1:SyAt H u _:=p1
          have hu2:SyAt H u2 _:=p2
          have du:=Sy.depth_subs (s:=.pr bb u u2) (u:=u) (by simp [Sy.subs])
          have du2:=Sy.depth_subs (s:=.pr bb u u2) (u:=u2) (by simp [Sy.subs])
          refine iteT (xr0 rfl (xr0 rfl (xn4 a _ _ _ ⟨rfl,rfl,SqT.of (s2 _ _ ha),at1,_,rfl,N,l,d,W,us,_,u,B,e,rfl,hW.same s2,hu1.same s2,he.same s2,hok.1,by omega,by exact Nat.le_of_lt ‹_›,hN,hri,fun r1 H3 s3 _ hr1=>?_⟩)))
          have s3':=s2.trans s3
          refine (xr0 rfl (xr0 rfl (xn4 a _ _ _ ⟨rfl,rfl,SqT.of (s3' _ _ ha),at2,_,rfl,N,l,d,W,us,_,u2,B,e,rfl,hW.same s3',hu2.same s3',he.same s3',hok.2,by omega,by exact Nat.le_of_lt ‹_›,hN,hri,fun r2 H4 s4 _ hr2=>?_⟩)))
          have s4':=s3'.trans s4
          have hr14:=s4 _ _ hr1
          have ln:(tr (Se.hold W u e)).length = (tr (Se.hold W u2 e)).length:=by rw [tr_len,tr_len]
          refine (xr0 rfl ⟨rfl,xr0 rfl (ifS (fun eb=>?_) (fun eb=>?_))⟩)
          · have hbb:bb = true:=by
              cases bb with
              | true=>rfl
              | false=>exact absurd eb (by simp only [Sy.kind]; decide)
            subst hbb
            refine (xr0 rfl (xr0 rfl (xn2 r1 r2 ⟨rfl,⟨_,SqL.of hr14⟩,⟨_,SqL.of hr2⟩,?_⟩)))
            refine comp_zip (K:=K) (a:=r1) (b:=r2) ln (fun C i ys H5=>Same H4 H5∧H4 C = none∧H5 C = some (.lst ys)∧ys = (tr (Se.hold W (.pr true u u2) e)).take i) ?_ ?_ ?_ ?_
            · exact fun C hC=>⟨same_new hC _,hC,upd_same,by simp⟩
            · rintro C i ys H5 hi ⟨sm,hC,h5,ey⟩
              refine ⟨SqL.of (sm _ _ hr14),SqL.of (sm _ _ hr2),h5,fun _=>?_⟩
              rw [ey]
              refine small1000 ?_
              rw [List.length_take,tr_len]
              omega
            · rintro C i x y ys H5 p hx hy hp ⟨sm,hC,h5,ey⟩
              have hi:i < N:=by have:=(List.getElem?_eq_some_iff.mp hx).1; rw [tr_len] at this; exact this
              rw [tr_get _ i hi] at hx hy
              cases hx
              cases hy
              have sp:=same_new hp (.tup [V.bl (Se.hold W u e ⟨i,hi⟩),V.bl (Se.hold W u2 e ⟨i,hi⟩)])
              refine (xn2 p _ ⟨rfl,SqT.of upd_same,rfl,_,_,rfl,_,_,rfl,rfl,trivial,_,rfl,_,rfl,?_⟩)
              have fin:∀ z,z = (Se.hold W u e ⟨i,hi⟩ && Se.hold W u2 e ⟨i,hi⟩)→(upd H5 p (.tup [V.bl (Se.hold W u e ⟨i,hi⟩),V.bl (Se.hold W u2 e ⟨i,hi⟩)])) C = some (.lst ys)∧Same H4 (upd (upd H5 p (.tup [V.bl (Se.hold W u e ⟨i,hi⟩),V.bl (Se.hold W u2 e ⟨i,hi⟩)])) C (.lst (ys++[V.bl z])))∧H4 C = none∧(upd (upd H5 p (.tup [V.bl (Se.hold W u e ⟨i,hi⟩),V.bl (Se.hold W u2 e ⟨i,hi⟩)])) C (.lst (ys++[V.bl z]))) C = some (.lst (ys++[V.bl z]))∧ys++[V.bl z] = (tr (Se.hold W (.pr true u u2) e)).take (i+1):=fun z hz=>by
                refine ⟨sp _ _ h5,fun b o eb=>?_,hC,upd_same,?_⟩
                · rw [upd_ne (ne_of_none eb hC)]
                  exact sp _ _ (sm b o eb)
                · rw [ey,tr_take _ i hi,hz]
                  rfl
              refine ite2 (fun c=>(xr0 rfl (fin _ ?_))) (fun c=>fin _ ?_)
              · rw [c]; rfl
              · rw [Bool.eq_false_iff.mpr c]; rfl
            · rintro C ys H5 ⟨sm,hC,h5,ey⟩
              rw [tr_len,take_all (tr_len _)] at ey
              exact q C H5 (s4'.trans sm) (s4'.free hC) (by rw [h5,ey])
          · have hbb:bb = false:=by
              cases bb with
              | true=>exact absurd rfl eb
              | false=>rfl
            subst hbb
            refine (xr0 rfl (xr0 rfl (xn2 r1 r2 ⟨rfl,⟨_,SqL.of hr14⟩,⟨_,SqL.of hr2⟩,?_⟩)))
            refine comp_zip (K:=K) (a:=r1) (b:=r2) ln (fun C i ys H5=>Same H4 H5∧H4 C = none∧H5 C = some (.lst ys)∧ys = (tr (Se.hold W (.pr false u u2) e)).take i) ?_ ?_ ?_ ?_
            · exact fun C hC=>⟨same_new hC _,hC,upd_same,by simp⟩
            · rintro C i ys H5 hi ⟨sm,hC,h5,ey⟩
              refine ⟨SqL.of (sm _ _ hr14),SqL.of (sm _ _ hr2),h5,fun _=>?_⟩
              rw [ey]
              refine small1000 ?_
              rw [List.length_take,tr_len]
              omega
            · rintro C i x y ys H5 p hx hy hp ⟨sm,hC,h5,ey⟩
              have hi:i < N:=by have:=(List.getElem?_eq_some_iff.mp hx).1; rw [tr_len] at this; exact this
              rw [tr_get _ i hi] at hx hy
              cases hx
              cases hy
              have sp:=same_new hp (.tup [V.bl (Se.hold W u e ⟨i,hi⟩),V.bl (Se.hold W u2 e ⟨i,hi⟩)])
              refine (xn2 p _ ⟨rfl,SqT.of upd_same,rfl,_,_,rfl,_,_,rfl,rfl,trivial,_,rfl,_,rfl,?_⟩)
              have fin:∀ z,z = (Se.hold W u e ⟨i,hi⟩ || Se.hold W u2 e ⟨i,hi⟩)→(upd H5 p (.tup [V.bl (Se.hold W u e ⟨i,hi⟩),V.bl (Se.hold W u2 e ⟨i,hi⟩)])) C = some (.lst ys)∧Same H4 (upd (upd H5 p (.tup [V.bl (Se.hold W u e ⟨i,hi⟩),V.bl (Se.hold W u2 e ⟨i,hi⟩)])) C (.lst (ys++[V.bl z])))∧H4 C = none∧(upd (upd H5 p (.tup [V.bl (Se.hold W u e ⟨i,hi⟩),V.bl (Se.hold W u2 e ⟨i,hi⟩)])) C (.lst (ys++[V.bl z]))) C = some (.lst (ys++[V.bl z]))∧ys++[V.bl z] = (tr (Se.hold W (.pr false u u2) e)).take (i+1):=fun z hz=>by
                refine ⟨sp _ _ h5,fun b o eb=>?_,hC,upd_same,?_⟩
                · rw [upd_ne (ne_of_none eb hC)]
                  exact sp _ _ (sm b o eb)
                · rw [ey,tr_take _ i hi,hz]
                  rfl
              refine ite2 (fun c=>fin _ ?_) (fun c=>(xr0 rfl (fin _ ?_)))
              · rw [c]; rfl
              · rw [Bool.eq_false_iff.mpr c]; rfl
            · rintro C ys H5 ⟨sm,hC,h5,ey⟩
              rw [tr_len,take_all (tr_len _)] at ey
              exact q C H5 (s4'.trans sm) (s4'.free hC) (by rw [h5,ey])
  rw [decide_eq_false hk3]
  refine iteF ?_
  refine qq5 _ _ ?_
  have kind0:(∃ b,s = .y0 b)∨∃ b x,s = .mk b x:=by
    cases s with
    | y0 b=>exact .inl ⟨b,rfl⟩
    | mk b x=>exact .inr ⟨b,x,rfl⟩
    | nm x=>exact absurd rfl ne
    | st b u=>exact absurd (Sy.st_kind b) hk2
    | pr b u u2=>exact absurd (Sy.pr_kind b) hk3
    | bn b x u=>exact absurd (Sy.bind_kind b) hk
  have hW2:=hW.same s2
  refine (xr0 rfl ⟨l,rfl,⟨_,SqL.of hW2.lst⟩,?_⟩)
  refine comp_list (K:=K) (a:=l) (xs:=us) (fun C i ys H3=>Same H2 H3∧H2 C = none∧H3 C = some (.lst ys)∧ys = (tr (Se.hold W s e)).take i) ?_ ?_ ?_ ?_
  · exact fun C hC=>⟨same_new hC _,hC,upd_same,by simp⟩
  · rintro C i ys H3 hi ⟨sm,hC,h3,ey⟩
    refine ⟨SqL.of (sm _ _ hW2.lst),h3,fun _=>?_⟩
    rw [ey]
    refine small1000 ?_
    rw [List.length_take,tr_len]
    omega
  · rintro C i x ys H3 hx ⟨sm,hC,h3,ey⟩
    have hi:i < N:=by rw [← hW.len]; exact (List.getElem?_eq_some_iff.mp hx).1
    obtain ⟨v',ev,pa,qa,rfl,hpa,hqa⟩:=(hW2.same sm).at' ⟨i,hi⟩
    have ex:V.ref pa = x:=Option.some.inj (ev.symm.trans hx)
    subst ex
    refine (xn2 pa _ ⟨rfl,SqT.of hpa,rfl,_,_,rfl,_,_,rfl,rfl,⟨rfl,trivial⟩,?_⟩)
    refine (xr0 rfl (xr0 rfl (xn3 _ s _ ⟨rfl,hs.same (s2.trans sm),kind0,h3,fun b o eb=>?_,hC,upd_same,?_⟩)))
    · rw [upd_ne (ne_of_none eb hC)]
      exact sm b o eb
    · rw [ey,tr_take _ i hi]
      congr 2
      rcases kind0 with ⟨b,rfl⟩ | ⟨b,x,rfl⟩<;>rfl
  · rintro C ys H3 ⟨sm,hC,h3,ey⟩
    rw [take_all ((tr_len _).trans hW.len.symm)] at ey
    exact q C H3 (s2.trans sm) (s2.free hC) (by rw [h3,ey])
end
end Law

namespace L2
open PySem
theorem putK_has {kvs:List (Key×V)} {k:Key} {v w:V} (h:valV kvs k = some w):(putK kvs k v).length = kvs.length:=by
  unfold putK
  rw [valV_any,h]
  simp
end L2
namespace Law
open PySem L2
section
seal PA PE PS PSs PT PI PG PGs PIf
variable {P:Program} {w:World} {K:PySem.W.Frag} {mg:Str→Option Value} {base:Heap} {f g:Addr} {fd gd:FuncData}
theorem scClosed:FnScope ["world","saying","named","inner","found"] ["world","saying","named"] (defScope sClosed):=⟨rfl,rfl,rfl,by decide +kernel,rfl,by decide +kernel,by decide +kernel⟩
theorem ndPS:(["place","saying"]:List Str).Nodup:=by decide +kernel
def turnC {N:Nat} (l d a:Addr) (W:Wo N) (b:Bool) (x:Str) (u:Sy) (B:List Str) (e:En N) (H:Hp) (n:Nat) (σ:St) (H2:Hp):Prop :=
  ∃ (di fo li:Addr) (kvs:List (Key×V)),σ = [some (.ref l),some (.ref a),some (.ref d),some (.ref di),some (.ref fo)]∧Same H H2∧H di = none∧H fo = none∧H2 di = some (.dK kvs)∧kvs.length≤B.length+1∧valV kvs (.inr x) = some (.ref li) ∧
    H2 li = some (.lst (tr (Se.it (fun t=>Se.hold W u (Se.put e x t)) n fun _=>!b)))∧H2 fo = some (.lst (tr (Se.it (fun t=>Se.hold W u (Se.put e x t)) (n+1) fun _=>!b)))∧∀ y∈B,∃ ly,valV kvs (.inr y) = some (.ref ly)∧H2 ly = some (.lst (tr (e y)))
theorem env_put {N:Nat} {H2 H3:Hp} {di lx:Addr} {kvs:List (Key×V)} {x:Str} {B:List Str} {e:En N} {t:Tr N} (h3:H3 di = some (.dK (putK kvs (.inr x) (.ref lx)))) (hl:(putK kvs (.inr x) (.ref lx)).length≤B.length+1) (hx:x∉B) (ht:H3 lx = some (.lst (tr t)))
    (hk:∀ b xs,H2 b = some (.lst xs)→H3 b = some (.lst xs)) (hB:∀ y∈B,∃ ly,valV kvs (.inr y) = some (.ref ly)∧H2 ly = some (.lst (tr (e y)))):EnvAt H3 di (B++[x]) (Se.put e x t):=by
  refine ⟨_,h3,by simpa using hl,fun y hy=>?_⟩
  rw [valV_put]
  by_cases hyx:y = x
  · subst hyx
    refine ⟨lx,by rw [if_pos rfl],?_⟩
    show _ = some (HO.lst (tr (if y = y then t else e y)))
    rw [if_pos rfl]
    exact ht
  · have hyB:y∈B:=by
      rcases List.mem_append.mp hy with z | z
      · exact z
      · exact absurd (List.mem_singleton.mp z) hyx
    obtain ⟨ly,h1,h2⟩:=hB y hyB
    refine ⟨ly,by rw [if_neg (fun z=>hyx (by injection z))]; exact h1,?_⟩
    show _ = some (HO.lst (tr (if y = x then t else e y)))
    rw [if_neg hyx]
    exact hk _ _ h2
theorem ok_closed (F:Fun K "closed" "closed" sClosed f fd) {D:Nat} {fH:Addr} {dH:FuncData} (GH:FnOk P w K mg base CX0 (2+2*D) fH dH ["world","saying","named"] (spHold D)) (bH:Binds K dH ["world","saying","named"] []) (kH:PySem.W.keepIn K (.ref fH) = true) (mH:mg "holding" = some (.ref fH)) (md:mg "dict" = none) :
    FnOk P w K mg base CX0 (2+2*D+1) f fd ["world","saying","named"] (spClosed (D+1)):=by
  refine F.ok scClosed (fun vs H Q E h=>?_) (fun cdv A outer s H vs Q E hr h=>?_)
  · obtain ⟨N,l,d,W,us,v,b,x,u,B,e,rfl,_⟩:=h
    rfl
  obtain ⟨N,l,d,W,us,v,b,x,u,B,e,rfl,hW,hs,he,hok,hd,hBD,hN,hri,q⟩:=h
  have hu:_+1 < cLine:=Nat.lt_of_le_of_lt (Nat.add_le_add_left (by decide:1≤64) _) hr.units
  have hu30:_+30 < cLine:=Nat.lt_of_le_of_lt (Nat.add_le_add_left (by decide:30≤64) _) hr.units
  refine ⟨_,pss_cons (ps_set (i:=3) scClosed.nd rfl (Or.inl rfl) (pe_callTy call_dictD rfl md PyProof.Rows.boot_dict (pa_cons (pv 2) pa_nil)))
    (pss_cons (ps_dput hu (pv 3) (pe_ix ix_tup (pv 1) pe_int (fun _ _=>rfl)) (pe_comp (N:=["place","saying"]) (capt:=[none,some 1]) rfl (pi_list (pv 0)) rfl (by repeat (first | exact .nil | refine .cons rfl ?_))
        (by repeat (first | exact .nil | refine .skip (by decide) (by decide) ?_ | refine .free ⟨_,rfl⟩ ?_)) (.tgt (.var rfl (.inl rfl) ⟨_,rfl⟩ (.inl rfl) .nil))
        (fun _ _ _ _ _=>pg_name (i:=0) ndPS rfl (Or.inl rfl)) (fun _ _ _ _ _=>pif_nil) (fun _ _ _ _ _=>pe_cmpR op_eq (pe_ix (ixT K) (pv 1) pe_int (fun _ _=>rfl)) pe_str (nomark _))) rfl)
    (pss_cons (ps_set (i:=4) scClosed.nd rfl (Or.inl rfl) (pe_call GH hr rfl mH kH bH .nil pass0 (pa_cons (pv 0) (pa_cons (pe_ix ix_tup (pv 1) pe_int (fun _ _=>rfl)) (pa_cons (pv 3) pa_nil)))))
    (pss_cons (ps_while PassesOwn.never (pt_cmpR (op_neF hu30) (pv 4) (pe_dget hu (pv 3) (pe_ix ix_tup (pv 1) pe_int (fun _ _=>rfl)) (fun _ _=>rfl)) (nomark _))
      (pss_cons (ps_dput hu (pv 3) (pe_ix ix_tup (pv 1) pe_int (fun _ _=>rfl)) (pv 4) rfl)
      (pss_one (ps_set (i:=4) scClosed.nd rfl (Or.inl rfl) (pe_call GH hr rfl mH kH bH .nil pass0 (pa_cons (pv 0) (pa_cons (pe_ix ix_tup (pv 1) pe_int (fun _ _=>rfl)) (pa_cons (pv 3) pa_nil))))))))
    (pss_one (ps_ret (pv 4)))))),?_⟩
  first | dsimp only [nxK,nxP,nxW] | skip
  refine xe2 hs fun a uv y58=>?_
  obtain ⟨rfl,ha,hu'⟩:=y58
  obtain ⟨kvs0,hk0,hkl0,hkB⟩:=he
  have du:=Sy.depth_subs (s:=.bn b x u) (u:=u) (by simp [Sy.subs])
  generalize hF:(fun t=>Se.hold W u (Se.put e x t)) = Fn
  have Fm:∀ t u,Se.le t u→Se.le (Fn t) (Fn u):=by rw [← hF]; exact Se.F_mono W u e x
  refine seqK fun kk1 qq1=>?_
  refine (xr0 rfl (xn2 d kvs0 ⟨rfl,.inl hk0,fun di hdi=>?_⟩))
  refine qq1 _ _ ?_
  have s1:=same_new hdi (.dK kvs0)
  generalize hH1:upd H di (.dK kvs0) = H1 at s1
  have d1:H1 di = some (.dK kvs0):=by rw [← hH1]; exact upd_same
  have hW1:=hW.same s1
  refine seqK fun kk2 qq2=>?_
  refine (xr0 rfl ⟨l,rfl,⟨_,SqL.of hW1.lst⟩,?_⟩)
  refine comp_list (K:=K) (a:=l) (xs:=us) (fun C i ys H2=>Same H1 H2∧H1 C = none∧H2 C = some (.lst ys)∧ys = (tr (N:=N) fun _=>!b).take i) ?_ ?_ ?_ ?_
  · exact fun C hC=>⟨same_new hC _,hC,upd_same,by simp⟩
  · rintro C i ys H2 hi ⟨sm,hC,h2,ey⟩
    refine ⟨SqL.of (sm _ _ hW1.lst),h2,fun _=>?_⟩
    rw [ey]
    refine small1000 ?_
    rw [List.length_take,tr_len]
    omega
  · rintro C i y ys H2 hy ⟨sm,hC,h2,ey⟩
    have hi:i < N:=by rw [← hW.len]; exact (List.getElem?_eq_some_iff.mp hy).1
    refine ⟨⟨rfl,trivial⟩,_,rfl,a,_,_,_,rfl,rfl,SqT.of ((s1.trans sm) _ _ ha),at0,rfl,h2,fun c o ec=>?_,hC,upd_same,?_⟩
    · rw [upd_ne (ne_of_none ec hC)]
      exact sm c o ec
    · rw [ey,tr_take _ i hi]
      congr 2
      show V.bl _ = V.bl (!b)
      cases b with
      | true=>exact congrArg V.bl (decide_eq_false (fun z=>absurd (by injection z) (by decide:¬ Sy.k4 true = "most")))
      | false=>exact congrArg V.bl (decide_eq_true rfl)
  rintro C ys H2 ⟨sm2,hC,h2,ey⟩
  rw [take_all ((tr_len _).trans hW.len.symm)] at ey
  subst ey
  have s2:=s1.trans sm2
  have d2:=sm2 _ _ d1
  refine (xr0 rfl (xr0 rfl (xn4 a _ _ _ ⟨rfl,rfl,SqT.of (s2 _ _ ha),at1,di,_,rfl,DPut.k (k:=.inr x) d2 (small1000 (by omega)),?_⟩)))
  refine qq2 _ _ ?_
  have hne:∀ c o,H c = some o→c≠di:=fun c o ec=>ne_of_none ec hdi
  generalize hH3:upd H2 di (.dK (putK kvs0 (.inr x) (.ref C))) = H3
  have d3:H3 di = some (.dK (putK kvs0 (.inr x) (.ref C))):=by rw [← hH3]; exact upd_same
  have k3:∀ c xs,H2 c = some (.lst xs)→H3 c = some (.lst xs):=fun c xs ec=>by rw [← hH3,upd_ne (fun z=>by rw [z,d2] at ec; cases ec)]; exact ec
  have s3:Same H H3:=fun c o ec=>by rw [← hH3,upd_ne (hne c o ec)]; exact s2 _ _ ec
  have l3:(putK kvs0 (.inr x) (.ref C)).length≤B.length+1:=Nat.le_trans (putK_len _ _ _) (by exact Nat.lt_succ_of_le ‹_›)
  have B2:∀ y∈B,∃ ly,valV kvs0 (.inr y) = some (.ref ly)∧H2 ly = some (.lst (tr (e y))):=fun y hy=>by obtain ⟨ly,e1,e2⟩:=hkB y hy; exact ⟨ly,e1,s2 _ _ e2⟩
  have e3:EnvAt H3 di (B++[x]) (Se.put e x fun _=>!b):=env_put d3 l3 hok.1 (k3 _ _ h2) k3 B2
  refine seqK fun kk3 qq3=>?_
  refine (xr0 rfl (xr0 rfl (xn4 a _ _ _ ⟨rfl,rfl,SqT.of (s3 _ _ ha),at2,_,rfl,N,l,di,W,us,_,u,B++[x],Se.put e x fun _=>!b,rfl,hW.same s3,hu'.same s3,e3,hok.2.2,by exact Nat.le_of_succ_le_succ ‹_›,by simp; omega,hN,hri,fun fo H4 s4 hfo h4=>?_⟩)))
  refine qq3 _ _ ?_
  have vx:∀ (kv:List (Key×V)) (z:V),valV (putK kv (.inr x) z) (.inr x) = some z:=fun kv z=>by rw [valV_put,if_pos rfl]
  have vy:∀ (kv:List (Key×V)) (z:V) (y:Str),y∈B→valV (putK kv (.inr x) z) (.inr y) = valV kv (.inr y):=fun kv z y hy=>by
    rw [valV_put,if_neg (fun q=>hok.1 (by injection q with q; rw [← q]; exact hy))]
  have init:turnC l d a W b x u B e H 0 [some (.ref l),some (.ref a),some (.ref d),some (.ref di),some (.ref fo)] H4:=by
    refine (xn4 di fo C _ ⟨rfl,s3.trans s4,hdi,s3.free hfo,s4 _ _ d3,l3,vx _ _,s4 _ _ (k3 _ _ h2),h4,fun y hy=>?_⟩)
    obtain ⟨ly,e1,e2⟩:=B2 y hy
    exact ⟨ly,by rw [vy _ _ y hy]; exact e1,s4 _ _ (k3 _ _ e2)⟩
  refine ⟨fun m σ H5=>∃ n,m = Se.left b (Se.it (fun t=>Se.hold W u (Se.put e x t)) n fun _=>!b)∧turnC l d a W b x u B e H n σ H5,⟨_,0,rfl,init⟩,?_⟩
  rintro m σ H5 ⟨n,rfl,di5,fo5,li5,kvs,rfl,s5,hdi5,hfo5,d5,l5,v5,h5i,h5f,hB5⟩
  have dg:=DGet.k (k:=.inr x) d5
  rw [v5] at dg
  refine ⟨_,rfl,_,rfl,_,rfl,a,_,_,_,rfl,rfl,SqT.of (s5 _ _ ha),at1,di5,_,rfl,dg,fo5,li5,_,_,_,rfl,rfl,SqL.of h5f,SqL.of h5i,.inr ⟨_,_,rfl,rfl,by rw [List.length_ofFn,List.length_ofFn],rfl⟩,_,rfl,?_⟩
  by_cases heq:Se.it (fun t=>Se.hold W u (Se.put e x t)) (n+1) (fun _=>!b) = Se.it (fun t=>Se.hold W u (Se.put e x t)) n fun _=>!b
  · rw [heq,decide_eq_true rfl]
    refine iteF (xr0 rfl (q fo5 H5 s5 hfo5 ?_))
    rw [h5f]
    have:=Se.stops (Se.F_mono W u e x) heq
    rw [this]
    rfl
  · rw [decide_eq_false (fun z=>heq (tr_inj (congrArg (List.map V.bl) z)))]
    refine iteT ⟨fun σ' H'=>turnC l d a W b x u B e H (n+1) σ' H',fun σ' H' ht=>⟨_,Se.left_lt (Se.chain (Se.F_mono W u e x) n) heq,n+1,rfl,ht⟩,?_⟩
    refine (xr0 rfl (xr0 rfl (xr0 rfl (xn4 a _ _ _ ⟨rfl,rfl,SqT.of (s5 _ _ ha),at1,di5,_,rfl,DPut.k (k:=.inr x) d5 (small1000 (by omega)),?_⟩))))
    have hne5:∀ c o,H c = some o→c≠di5:=fun c o ec=>ne_of_none ec hdi5
    generalize hH6:upd H5 di5 (.dK (putK kvs (.inr x) (.ref fo5))) = H6
    have d6:H6 di5 = some (.dK (putK kvs (.inr x) (.ref fo5))):=by rw [← hH6]; exact upd_same
    have k6:∀ c xs,H5 c = some (.lst xs)→H6 c = some (.lst xs):=fun c xs ec=>by rw [← hH6,upd_ne (fun z=>by rw [z,d5] at ec; cases ec)]; exact ec
    have s6:Same H H6:=fun c o ec=>by rw [← hH6,upd_ne (hne5 c o ec)]; exact s5 _ _ ec
    have l6:(putK kvs (.inr x) (.ref fo5)).length≤B.length+1:=by rw [putK_has v5]; exact l5
    have e6:=env_put d6 l6 hok.1 (k6 _ _ h5f) k6 hB5
    refine (xr0 rfl (xr0 rfl (xn4 a _ _ _ ⟨rfl,rfl,SqT.of (s6 _ _ ha),at2,_,rfl,N,l,di5,W,us,_,u,B++[x],_,rfl,hW.same s6,hu'.same s6,e6,hok.2.2,by exact Nat.le_of_succ_le_succ ‹_›,by simp; omega,hN,hri,fun fo7 H7 s7 hfo7 h7=>?_⟩)))
    refine (xn4 di5 fo7 fo5 _ ⟨rfl,s6.trans s7,hdi5,s6.free hfo7,s7 _ _ d6,l6,vx _ _,s7 _ _ (k6 _ _ h5f),h7,fun y hy=>?_⟩)
    obtain ⟨ly,e1,e2⟩:=hB5 y hy
    exact ⟨ly,by rw [vy _ _ y hy]; exact e1,s7 _ _ (k6 _ _ e2)⟩
end
end Law

namespace L2
open PySem PySem.Spec PyProof.Rows
section
variable {X:Cx}
end
theorem SargAt.imp {H H':Hp} (k:∀ a xs,H a = some (.tup xs)→H' a = some (.tup xs)) {s:Sarg} {v:V} (h:SargAt H s v):SargAt H' s v:=by
  cases s with
  | tx x=>exact h
  | sy s=>exact SyAt.imp k h
end L2

namespace L2
open PySem PySem.Spec PyProof.Rows
theorem max_loopD {prog:Program} {w:World} {A:Around} {R:Result→Shared→Prop} {I:Addr} {fp wr:List Addr} {n:Nat} {P:Nat→Value→Prop} {St:Nat→Heap→Prop} (W:Walks prog w A.in1 I fp wr n P St) (bt:Nat→Nat→Bool) (hcmp:CmpOf prog w A.in1 .Gt P bt) (S:Addr) (hSf:¬ S∈fp) (kw:List (Str×Value)) :
    ∀ (k j:Nat) (s:Shared) (vb:Value) (c:Nat),n - (j+1) = k→j+1≤n→St (j+1) s.heap→P (argBest bt j) vb→s.heap.get? S = some { cls:=.type "list",data:=.seq #[vb,vb] c } →
      (∀ (v:Value) (h':Heap) (tk:Nat),P (argBest bt (n - 1)) v→(∀ (b:Addr) (o:Obj),¬ b∈wr→b≠S→s.heap.get? b = some o→h'.get? b = some o)→R (.ok (.ret v)) { s with heap:=h',toks:=tk }) →
      codeAny (model prog w) A (.builtin "max.loop" { pos:=[.ref I,.none,.ref S],kw:=kw }) R s:=by
  have hSw:¬ S∈wr:=fun h=>hSf (W.sub S h)
  intro k
  induction k with
  | zero =>
    intro j s vb c hk hj hst hPb hS hR
    have hin:n = j+1:=by omega
    refine codeAny_builtin PySem.F.entry_max_loop ?_
    rw [Around.under_plainId PySem.F.plain_max_loop]
    refine wpAny_bind (wpAny_seqItems hS rfl ?_)
    refine wpAny_bind (wpAny_tryCatch (W.done s _ _ (hin▸hst) fun h' tk hk'=>?_))
    have hS':=hk' S _ hSw hS
    refine wpAny_bind (wpAny_updateSeq hS' rfl (wpAny_bind (wpAny_letGo (wpAny_pure ?_))) (by show 2≤sizeLine; decide) (Nat.zero_le _))
    refine hR vb _ tk (by rw [hin]; exact hPb) fun b o hbw hbS e=>?_
    exact (Heap.get?_update_other _ _ (Ne.symm hbS)).trans (hk' b o hbw e)
  | succ k ih =>
    intro j s vb c hk hj hst hPb hS hR
    have hlt:j+1 < n:=by omega
    refine codeAny_builtin PySem.F.entry_max_loop ?_
    rw [Around.under_plainId PySem.F.plain_max_loop]
    refine wpAny_bind (wpAny_seqItems hS rfl ?_)
    refine wpAny_bind (wpAny_tryCatch (W.item (j+1) s _ _ hlt hst fun v h' tk hP hst' hk'=>?_))
    have hS':=hk' S _ hSw hS
    refine wpAny_bind (wpAny_pure ?_)
    refine wpAny_bind (wpAny_tryCatch (wpAny_holding (wpAny_bind (hcmp (j+1) (argBest bt j) v vb _ _ _ hP hPb ?_))))
    refine wpAny_bind (wpAny_holding (wpAny_truthy_bool (wpAny_bind (wpAny_letGo (wpAny_pure ?_)))))
    have best:argBest bt (j+1) = if bt (j+1) (argBest bt j) = true then j+1 else argBest bt j:=rfl
    cases hb:bt (j+1) (argBest bt j) with
    | false =>
      rw [hb] at best
      refine wpAny_bind (wpAny_letGo (wpAny_pure ⟨plainId_quiet PySem.F.plain_max_loop _,?_⟩))
      refine ih (j+1) _ vb c (by omega) (by assumption) hst' (by rw [best]; exact hPb) hS' fun v' h'' tk'' hP' hk''=>hR v' h'' tk'' hP' fun b o hbw hbS e=>hk'' b o hbw hbS (hk' b o hbw e)
    | true =>
      rw [hb] at best
      refine wpAny_bind (wpAny_updateSeq hS' rfl (wpAny_bind (wpAny_letGo (wpAny_pure ⟨plainId_quiet PySem.F.plain_max_loop _,?_⟩))) (by show 2≤sizeLine; decide) (by show 2≤sizeLine+1; decide))
      refine ih (j+1) _ v _ (by omega) (by assumption) (W.frame (j+1+1) h' _ hst' fun b hbf o e=>(Heap.get?_update_other _ _ fun (z:S = b)=>hSf (by rw [z]; exact hbf)).trans e) (by rw [best]; exact hP) (Heap.get?_update_self _ hS' rfl) fun v' h'' tk'' hP' hk''=>hR v' h'' tk'' hP' fun b o hbw hbS e=>hk'' b o hbw hbS ((Heap.get?_update_other _ _ (Ne.symm hbS)).trans (hk' b o hbw e))
theorem args_maxD (x d:Value):argsOk "max" { pos:=[x],kw:=[("default",d)] }:=by
  unfold argsOk
  rfl
theorem check_maxD (x d:Value):checkBuiltinCall "max" { pos:=[x],kw:=[("default",d)] } = pure ():=by
  have h:=args_maxD x d
  unfold checkBuiltinCall
  first
    | exact h
    | (simp only [PySem.F.kind_max]; exact h)
    | (rw [PySem.F.kind_max]; exact h)
theorem call_maxD_walk {prog:Program} {w:World} {A:Around} {E:Value→Shared→Prop} {s:Shared} {x d:Value} {Q:Value→Shared→Prop}
    (h:wpAny (model prog w) A.in1 (pyIter x) (fun it s₂=>∃ (I:Addr) (fp wr:List Addr) (n:Nat) (P:Nat→Value→Prop) (St:Nat→Heap→Prop) (bt:Nat→Nat→Bool),it = .ref I∧Walks prog w A.in1 I fp wr n P St∧St 0 s₂.heap∧(∀ b∈fp,b < s₂.heap.objs.size)∧CmpOf prog w A.in1 .Gt P bt ∧
      (n = 0→∀ (h':Heap) (tk:Nat),(∀ (b:Addr) (o:Obj),¬ b∈wr→s₂.heap.get? b = some o→h'.get? b = some o)→Q d { s₂ with heap:=h',toks:=tk }) ∧
      (0 < n→∀ (v:Value) (h':Heap) (tk:Nat),P (argBest bt (n - 1)) v→(∀ (b:Addr) (o:Obj),¬ b∈wr→s₂.heap.get? b = some o→h'.get? b = some o)→Q v { s₂ with heap:=h',toks:=tk })) E s) :
    wpAny (model prog w) A (call (.builtin "max") [x] [("default",d)]) Q E s:=by
  refine wpAny_call (codeAny_call_builtin PySem.F.plain_max PySem.F.entry_max ?_)
  rw [check_maxD]
  refine wpAny_pure ?_
  refine wpAny_bind (wpAny_of_eq (show Builtin.Builtins.bindParams "max" ["key","default"] 0 { kw:=[("default",d)] } = pure [none,some d] from rfl) ?_)
  refine wpAny_bind (wpAny_pure (wpAny_bind (wpAny_mono h (fun it s₂ h₂=>?_) (fun e s' he=>he))))
  obtain ⟨I,fp,wr,n,P,St,bt,rfl,W,hst,hfp,hcmp,q0,q1⟩:=h₂
  refine wpAny_bind (wpAny_newObj_type ?_ (Nat.zero_le _))
  have hSf:¬ s₂.heap.objs.size∈fp:=fun hm=>Nat.lt_irrefl _ (hfp _ hm)
  have hSw:¬ s₂.heap.objs.size∈wr:=fun h=>hSf (W.sub _ h)
  have hname:(toString "max"++toString ".loop":String) = "max.loop":=by decide
  refine wpAny_pure ?_
  rw [hname]
  refine ⟨plainId_quiet PySem.F.plain_max_loop _,?_⟩
  show codeAny (model prog w) A (.builtin "max.loop" { pos:=[.ref I,.none,.ref s₂.heap.objs.size],kw:=[("default",d)] }) _ _
  refine codeAny_builtin PySem.F.entry_max_loop ?_
  rw [Around.under_plainId PySem.F.plain_max_loop]
  have keep:∀ (b:Addr) (o:Obj),s₂.heap.get? b = some o→(s₂.heap.push { cls:=.type "list",data:=.seq #[] 0 }).get? b = some o:=fun b o e=>Heap.get?_push_of_some _ e
  have hS:(s₂.heap.push { cls:=.type "list",data:=.seq #[] 0 }).get? s₂.heap.objs.size = some { cls:=.type "list",data:=.seq #[] 0 }:=Heap.get?_push_size _ rfl
  have hst0:St 0 (s₂.heap.push { cls:=.type "list",data:=.seq #[] 0 }):=W.frame 0 _ _ hst fun b _ o e=>keep b o e
  refine wpAny_bind (wpAny_seqItems hS rfl ?_)
  by_cases hn:n = 0
  · subst hn
    refine wpAny_bind (wpAny_tryCatch (W.done _ _ _ hst0 fun h' tk hk'=>?_))
    refine wpAny_bind (wpAny_rule (wpAny_pure ?_))
    exact q0 rfl h' tk fun b o hb e=>hk' b o hb (keep b o e)
  · have hn0:0 < n:=by exact Nat.pos_of_ne_zero ‹_›
    refine wpAny_bind (wpAny_tryCatch (W.item 0 _ _ _ hn0 hst0 fun v h' tk hP hst' hk'=>?_))
    have hS':=hk' _ _ hSw hS
    refine wpAny_bind (wpAny_pure ?_)
    refine wpAny_bind (wpAny_updateSeq hS' rfl (wpAny_pure ⟨plainId_quiet PySem.F.plain_max_loop _,?_⟩) (by show 0≤sizeLine; exact Nat.zero_le _) (by show 2≤sizeLine+1; decide))
    refine max_loopD W bt hcmp s₂.heap.objs.size hSf _ (n - (0+1)) 0 _ v _ rfl hn0 (W.frame (0+1) h' _ hst' fun b hbf o e=>(Heap.get?_update_other _ _ fun (z:s₂.heap.objs.size = b)=>hSf (by rw [z]; exact hbf)).trans e) hP (Heap.get?_update_self _ hS' rfl) fun v' h'' tk'' hP' hk''=>?_
    refine q1 hn0 v' h'' tk'' hP' fun b o hbw e=>?_
    have hbS:b≠s₂.heap.objs.size:=Nat.ne_of_lt (Heap.lt_size e)
    exact hk'' b o hbw hbS ((Heap.get?_update_other _ _ (Ne.symm hbS)).trans (hk' b o hbw (keep b o e)))
section
variable {X:Cx}
def tMaxD (K:PySem.W.Frag) (ta td:TE):TE:=fun σ H Q=>tCons ta tNil σ H fun vs H1=>td σ H1 fun y H2=>∃ (l:Addr) (ns:List Int) (d:Int),vs = [.ref l]∧y = .int d∧SqL K H2 l (ns.map V.int)∧(ns = []→Q (.int d) H2)∧(ns≠[]→∀ M,M∈ns→(∀ a,a∈ns→a≤M)→Q (.int M) H2)
theorem pe_maxD {e v:Expr} {ta td:TE} {p kp pos:Pos} (hc:X.calm = true) (hg:Gl X "max") (hm:X.mg "max" = none) (ha:PE X e ta) (hd:PE X v td)
    (he:starEach [e] X.env = (false,eval e X.env)::starEach [] X.env:=by rfl) (hb:backTo pos (starEach [e] X.env) = (false,eval e X.env)::backTo pos (starEach [] X.env):=by rfl) (hpl:((backTo pos (starEach [e] X.env)).any fun x=>x.1) = false:=by rfl)
    (hk1:((backToKw pos (keywordEach [{ arg:=some "default",value:=v,pos:=kp }] X.env)).all fun x=>x.1.isSome) = true:=by rfl) (hk2:((backToKw pos (keywordEach [{ arg:=some "default",value:=v,pos:=kp }] X.env)).any fun x=>x.1.isNone) = false:=by rfl)
    (hk3:(List.filterMap (fun x=>x.1) (backToKw pos (keywordEach [{ arg:=some "default",value:=v,pos:=kp }] X.env))) = [("default":Str)]:=by rfl) :
    PE X (.Call (.Name "max" p) [e] [{ arg:=some "default",value:=v,pos:=kp }] pos) (tMaxD X.K ta td):=by
  intro pins s σ H Q I h
  refine wpAny_Call_Name_kw (ld_blt I hg hm PyProof.Rows.boot_max ?_ (by decide) (by decide))
  have pa:PA X [e] (tCons ta tNil):=pa_cons ha pa_nil he
  refine PyProof.Rows.callWith_kw (thn (pa pos pins s σ H _ I h) fun us s1 ⟨vs,H1,I1,r1,q1⟩=>?_) hb hpl hk1 hk2
  · refine kws_cons (thn (hd pins s1 σ H1 _ I1 q1) fun uv s2 ⟨y,H2,I2,r2,q2⟩=>kws_nil ?_)
    obtain ⟨l,ns,d,rfl,rfl,hq,q0,q1⟩:=q2
    obtain ⟨u,rfl,ru⟩:=vals1 r1
    rw [hk3]
    obtain ⟨t,rfl⟩:=r2
    cases ru
    show wpAny (model X.prog X.w) X.A (call (.builtin "max") [.ref l] [("default",.int d t)]) (EP X pins σ Q) X.xe s2
    obtain ⟨its,rv,pl,hz⟩:=I2.list hq
    have hi:=ints_vals rv
    have hlen:=rv.length
    rw [List.length_map] at hlen
    have lt:l < s2.heap.objs.size:=by obtain ⟨o,e,_⟩:=pl.isList; exact Heap.lt_size e
    have val:∀ (i:Nat) (v:Value),its.toArray[i]? = some v→∃ t,v = Value.int (ns.getD i 0) t:=fun i v hv=>by
      have hv':its[i]? = some v:=by simpa using hv
      have hi:i < ns.length:=by have:=(List.getElem?_eq_some_iff.mp hv').1; omega
      have e:ns.getD i 0 = ns[i]:=by simp [List.getD,List.getElem?_eq_getElem hi]
      obtain ⟨u,hu,ru⟩:=rv.get (i:=i) (x:=.int ns[i]) (by rw [List.getElem?_map,List.getElem?_eq_getElem hi]; rfl)
      rw [hv'] at hu
      cases hu
      obtain ⟨t,rfl⟩:=ru
      rw [e]
      exact ⟨t,rfl⟩
    refine call_maxD_walk (wpAny_pyIter_list pl.isList ?_)
    refine ⟨s2.heap.objs.size,_,_,its.toArray.size,_,_,fun i j=>decide (ns.getD i 0 > ns.getD j 0),rfl,Walks.list (A:=X.A.in1) (show X.A.in1.handled = none from I2.ok.hd hc) s2.heap.objs.size l (Nat.ne_of_lt lt) its.toArray,⟨⟨_,Heap.get?_push_size _ rfl,rfl,rfl⟩,pl.isList.at fun o e=>Heap.get?_push_of_some _ e⟩,?_,CmpOf.ints_gt (fun i=>ns.getD i 0) val,fun h0 h' tk kk=>?_,fun h0 v h' tk hv kk=>?_⟩
    · intro b hb'
      have sz:∀ o:Obj,(s2.heap.push o).objs.size = s2.heap.objs.size+1:=fun o=>by simp [Heap.push]
      simp only [List.mem_cons,List.not_mem_nil,or_false] at hb'
      show b < (s2.heap.push _).objs.size
      rw [sz]
      rcases hb' with e | e
      · rw [e]; exact Nat.lt_succ_self _
      · rw [e]; exact Nat.lt_succ_of_lt lt
    · have e0:ns = []:=List.eq_nil_of_length_eq_zero (by rw [List.size_toArray] at h0; omega)
      refine ⟨.int d,H2,?_,⟨_,rfl⟩,q0 e0⟩
      refine I2.kept fun b o hb=>kk b o (fun z=>?_) (Heap.get?_push_of_some _ hb)
      exact absurd (Heap.lt_size hb) (by rw [List.mem_singleton.mp z]; exact Nat.lt_irrefl _)
    · have hne:ns≠[]:=fun z=>by rw [List.size_toArray,← hlen,z] at h0; exact absurd h0 (by decide)
      have hp:=List.length_pos_iff.mpr hne
      obtain ⟨t,rfl⟩:=val _ _ hv
      obtain ⟨h1,h2⟩:=argBest_gt (fun i=>ns.getD i 0) (its.toArray.size - 1)
      have mm:∀ i,i < ns.length→ns.getD i 0∈ns:=fun i hi=>by simp [List.getD,List.getElem?_eq_getElem hi]
      refine ⟨.int _,H2,?_,⟨_,rfl⟩,q1 hne _ (mm _ (Nat.lt_of_le_of_lt h1 (by rw [List.size_toArray]; omega))) fun a ha=>?_⟩
      · refine I2.kept fun b o hb=>kk b o (fun z=>?_) (Heap.get?_push_of_some _ hb)
        exact absurd (Heap.lt_size hb) (by rw [List.mem_singleton.mp z]; exact Nat.lt_irrefl _)
      · obtain ⟨j,hj,rfl⟩:=List.mem_iff_getElem.mp ha
        have e:ns.getD j 0 = ns[j]:=by simp [List.getD,List.getElem?_eq_getElem hj]
        rw [← e]
        exact h2 j (by rw [List.size_toArray]; omega)
end
end L2

namespace Law
open PySem L2
section
seal PA PE PS PSs PT PI PG PGs PIf
variable {P:Program} {w:World} {K:PySem.W.Frag} {mg:Str→Option Value} {base:Heap} {f g:Addr} {fd gd:FuncData}
theorem ok_holds {fH fC fL fB aB:Addr} {dH dC dL dB:FuncData} (FH:Fun K "holding" "holding" sHolding fH dH) (bH:Binds K dH ["world","saying","named"] []) (kH:PySem.W.keepIn K (.ref fH) = true) (mH:mg "holding" = some (.ref fH))
    (FC:Fun K "closed" "closed" sClosed fC dC) (bC:Binds K dC ["world","saying","named"] []) (kC:PySem.W.keepIn K (.ref fC) = true) (mC:mg "closed" = some (.ref fC))
    (GL:FnOk P w K mg base CX0 1 fL dL ["kind","found"] (spLedOn K)) (bL:Binds K dL ["kind","found"] []) (kL:PySem.W.keepIn K (.ref fL) = true) (mL:mg "led_on" = some (.ref fL))
    (GB:FnOk P w K mg base CX0 1 fB dB ["saying","marks"] spByItself) (bB:Binds K dB ["saying","marks"] []) (kB:PySem.W.keepIn K (.ref fB) = true) (mB:mg "holds_by_itself" = some (.ref fB))
    (mBi:mg "BINDERS" = some (.ref aB)) (kBi:∀ H,SqT K H aB ((["least","most"]:List Str).map V.str)) (mli:mg "list" = none) (mz:mg "zip" = none) (md:mg "dict" = none):∀ D,FnOk P w K mg base CX0 (2+2*D) fH dH ["world","saying","named"] (spHold D):=by
  intro D
  induction D with
  | zero =>
    refine FH.ok (k:=1) scHold (fun vs H Q E h=>?_) (fun cdv A outer s H vs Q E hr h=>?_)
    · obtain ⟨N,y19⟩:=h
      refine xe8 y19 fun l d W us v s B e y19=>?_
      obtain ⟨rfl,_⟩:=y19
      rfl
    obtain ⟨N,y21⟩:=h
    refine xe8 y21 fun l d W us v s B e y21=>?_
    obtain ⟨rfl,_,_,_,_,hd,_⟩:=y21
    exact absurd (Nat.le_trans s.depth_pos hd) (by decide)
  | succ D ih =>
    have GC:=ok_closed (P:=P) (w:=w) (base:=base) FC ih bH kH mH md
    rw [show 2+2*D+1 = 3+2*D by omega] at GC
    rw [show 2+2*(D+1) = 3+2*D+1 by omega]
    exact ok_hold FH ih bH kH mH GC bC kC mC GL bL kL mL GB bB kB mB mBi kBi mli mz
def spTrue (D:Nat):Sp:=fun vs H Q _=>∃ (N:Nat) (l:Addr) (W:Wo N) (us:List V) (v:V) (s:Sy) (e:En N),vs = [.ref l,v]∧WorldAt H l W us∧SyAt H s v∧s.ok []∧s.depth≤D∧N≤900∧W.rises ∧
  ∀ r H',Same H H'→H r = none→H' r = some (.lst (tr (Se.hold W s e)))→Q (.ref r) H'
theorem scTrue:FnScope ["world","saying"] ["world","saying"] (defScope sTrueAt):=⟨rfl,rfl,rfl,by decide +kernel,rfl,by decide +kernel,by decide +kernel⟩
theorem ok_true (F:Fun K "true_at" "true_at" sTrueAt f fd) {D:Nat} (hD:D≤800) {fH:Addr} {dH:FuncData} (GH:FnOk P w K mg base CX0 (2+2*D) fH dH ["world","saying","named"] (spHold D)) (bH:Binds K dH ["world","saying","named"] []) (kH:PySem.W.keepIn K (.ref fH) = true) (mH:mg "holding" = some (.ref fH)) :
    FnOk P w K mg base CX0 (2+2*D+1) f fd ["world","saying"] (spTrue D):=by
  refine F.ok scTrue (fun vs H Q E h=>?_) (fun cdv A outer s H vs Q E hr h=>?_)
  · obtain ⟨N,y34⟩:=h
    refine xe6 y34 fun l W us v s e y34=>?_
    obtain ⟨rfl,_⟩:=y34
    rfl
  obtain ⟨N,y36⟩:=h
  refine xe6 y36 fun l W us v s e y36=>?_
  obtain ⟨rfl,hW,hs,hok,hd,hN,hri,q⟩:=y36
  refine ⟨_,pss_one (ps_ret (pe_call GH hr rfl mH kH bH .nil pass0 (pa_cons (pv 0) (pa_cons (pv 1) (pa_cons pe_dnewK pa_nil))))),?_⟩
  first | dsimp only [nxK,nxP,nxW] | skip
  refine (xr0 rfl (xr0 rfl (fun d hd'=>?_)))
  have s1:=same_new hd' (.dK [])
  exact ⟨N,l,d,W,us,_,s,[],e,rfl,hW.same s1,hs.same s1,⟨[],upd_same,Nat.le_refl _,fun x hx=>by cases hx⟩,hok,hd,by simp; omega,hN,hri,fun r H' sm hr' h'=>q r H' (s1.trans sm) (s1.free hr') h'⟩
end
end Law

namespace L2
open PySem
def tDead:TS:=fun _ _ _=>False
theorem ps_dead {X:Cx} {st:Stmt}:PS X st tDead:=fun _ _ _ _ _ _ h=>h.elim
end L2
namespace Law
open PySem L2
section
seal PA PE PS PSs PT PI PG PGs PIf
variable {P:Program} {w:World} {K:PySem.W.Frag} {mg:Str→Option Value} {base:Heap} {f g:Addr} {fd gd:FuncData}
def spWithin:Sp:=fun vs H Q _=>∃ (v:V) (s:Sy),vs = [v]∧SyAt H s v∧∀ l H' us,Same H H'→H l = none→H' l = some (.lst us)→Paired (SyAt H') s.subs us→Q (.ref l) H'
theorem scWithin:FnScope ["saying"] ["saying"] (defScope sWithin):=⟨rfl,rfl,rfl,by decide +kernel,rfl,by decide +kernel,by decide +kernel⟩
theorem ndPart:(["part"]:List Str).Nodup:=by decide +kernel
theorem ok_within (F:Fun K "within" "within" sWithin f fd) (mi:mg "isinstance" = none) (mt:mg "tuple" = none):FnOk P w K mg base CX0 1 f fd ["saying"] spWithin:=by
  refine F.ok scWithin (fun vs H Q E h=>?_) (fun cdv A outer s H vs Q E hr h=>?_)
  · refine xe2 h fun v s y22=>?_
    obtain ⟨rfl,_⟩:=y22
    rfl
  refine xe2 h fun v s y24=>?_
  obtain ⟨rfl,hs,q⟩:=y24
  refine ⟨_,pss_one (ps_ret (pe_comp (N:=["part"]) (capt:=[none]) rfl (pi_tup (pe_slice sl_tup (pv 0) (po_some pe_int) po_none)) rfl (by repeat (first | exact .nil | refine .cons rfl ?_))
      (by repeat (first | exact .nil | refine .skip (by decide) (by decide) ?_ | refine .free ⟨_,rfl⟩ ?_)) (.tgt .nil)
      (fun _ _ _ _ _=>pg_name (i:=0) ndPart rfl (Or.inl rfl)) (fun _ _ _ _ _=>pif_one (pt_val (pe_callB (isiK K) rfl mi PyProof.Rows.boot_isinstance (pa_cons (pv 0) (pa_cons (pe_bltn (v:=.ty "tuple") rfl mt (by decide +kernel:bootBuiltins "tuple" = some (.type "tuple")) rfl) pa_nil)))))
      (fun _ _ _ _ _=>pv 0))),?_⟩
  first | dsimp only [nxK,nxP,nxW] | skip
  refine xe2 (hs.args) fun a xs y30=>?_
  obtain ⟨rfl,ha,pr⟩:=y30
  refine (xr0 rfl (xr0 rfl (xn2 a _ ⟨rfl,SqT.of ha,slice1n,fun t ht=>?_⟩)))
  rw [slice1]
  have s1:=same_new ht (.tup xs)
  generalize hH1:upd H t (.tup xs) = H1 at s1
  have et:H1 t = some (.tup xs):=by rw [← hH1]; exact upd_same
  have lx:s.args.length = xs.length:=Paired.length pr
  have al:=args_le s
  refine ⟨t,rfl,⟨xs,SqT.of et⟩,?_⟩
  refine comp_tup (K:=K) (a:=t) (xs:=xs) (fun D i ys H2=>Same H1 H2∧H1 D = none∧H2 D = some (.lst ys)∧Paired (SyAt H2) (Sarg.subs (s.args.take i)) ys∧ys.length≤i) ?_ ?_ ?_ ?_
  · exact fun D hD=>⟨same_new hD _,hD,upd_same,.nil,Nat.le_refl _⟩
  · rintro D i ys H2 hi ⟨sm,hD,h2,p2,hl⟩
    exact ⟨SqT.of (sm _ _ et),h2,fun _=>small1000 (by omega)⟩
  · rintro D i x ys H2 hx ⟨sm,hD,h2,p2,hl⟩
    obtain ⟨r,hr',hxr⟩:=pair_backG pr hx
    have tk:s.args.take (i+1) = s.args.take i++[r]:=by
      obtain ⟨hi,e⟩:=List.getElem?_eq_some_iff.mp hr'
      rw [List.take_succ_eq_append_getElem hi,e]
    cases r with
    | tx z =>
      cases hxr
      refine ⟨trivial,xr0 rfl (xn4 _ _ _ false ⟨rfl,.str z,rfl,xr0 rfl (iteF ?_)⟩)⟩
      refine ⟨sm,hD,h2,?_,by exact Nat.le_succ_of_le ‹_›⟩
      rw [tk,Sarg.subs_app]
      show Paired _ (Sarg.subs (s.args.take i)++[]) ys
      rw [List.append_nil]
      exact p2
    | sy u =>
      have hu:SyAt H2 u x:=SyAt.same hxr (s1.trans sm)
      refine xe2 (hu.tup) fun ua us y59=>?_
      obtain ⟨rfl,hua⟩:=y59
      refine ⟨trivial,_,rfl,_,_,_,true,rfl,.tup hua,kit_same,_,rfl,iteT ?_⟩
      have k3:Same H1 (upd H2 D (.lst (ys++[V.ref ua]))):=fun b o e=>by
        rw [upd_ne (ne_of_none e hD)]
        exact sm b o e
      have k4:∀ b xs,H2 b = some (.tup xs)→(upd H2 D (.lst (ys++[V.ref ua]))) b = some (.tup xs):=fun b xs e=>by
        rw [upd_ne (fun z=>by rw [z,h2] at e; cases e)]
        exact e
      refine (xr0 rfl ⟨h2,k3,hD,upd_same,?_,by simp; assumption⟩)
      rw [tk,Sarg.subs_app]
      exact pair_snoc (hu.imp k4) (L2.Paired.mapP p2 fun a b z=>z.imp k4)
  · rintro D ys H2 ⟨sm,hD,h2,p2,hl⟩
    rw [← lx,List.take_length,Sarg.subs_args] at p2
    exact q D H2 ys (s1.trans sm) (s1.free hD) h2 p2
end
end Law

namespace L2
open PySem
theorem maxN {ns:List Nat} (h:ns≠[]) {M:Int} (hM:M∈ns.map fun (n:Nat)=>(n:Int)) (hall:∀ a,a∈(ns.map fun (n:Nat)=>(n:Int))→a≤M):M = ((ns.foldr max 0:Nat):Int):=by
  rcases Ha.foldr_max (ns:=ns) with ⟨z,_⟩ | ⟨_,h1,h2⟩
  · exact absurd z h
  obtain ⟨m,hm,rfl⟩:=List.mem_map.mp hM
  have a1:=hall _ (List.mem_map.mpr ⟨_,h1,rfl⟩)
  have a2:=h2 m hm
  have a1':((ns.foldr max 0:Nat):Int)≤(m:Int):=a1
  show (m:Int) = _
  omega
theorem Sy.kind_stq {s:Sy} (h:s.kind∈(["some","every"]:List Str)):∃ b u,s = .st b u:=by
  cases s with
  | nm x=>exact absurd h (by simp only [Sy.kind]; decide)
  | y0 b=>cases b<;>exact absurd h (by simp only [Sy.kind]; decide)
  | mk b x=>cases b<;>exact absurd h (by simp only [Sy.kind]; decide)
  | st b x=>exact ⟨b,x,rfl⟩
  | pr b x y=>cases b<;>exact absurd h (by simp only [Sy.kind]; decide)
  | bn b x y=>cases b<;>exact absurd h (by simp only [Sy.kind]; decide)
theorem Sy.stq_kind (b:Bool):Sy.k2 b∈(["some","every"]:List Str):=by cases b<;>decide
end L2
namespace Law
open PySem L2
section
seal PA PE PS PSs PT PI PG PGs PIf
variable {P:Program} {w:World} {K:PySem.W.Frag} {mg:Str→Option Value} {base:Heap} {f g:Addr} {fd gd:FuncData}
def spGreat (D:Nat):Sp:=fun vs H Q _=>∃ (v:V) (s:Sy),vs = [v]∧SyAt H s v∧s.depth≤D∧∀ H',Same H H'→Q (.int (Ha.grank s:Int)) H'
theorem scGreat:FnScope ["saying","inner"] ["saying"] (defScope sGreat):=⟨rfl,rfl,rfl,by decide +kernel,rfl,by decide +kernel,by decide +kernel⟩
theorem ok_great (F:Fun K "greatest_rank" "greatest_rank" sGreat f fd) {fW:Addr} {dW:FuncData} (GW:FnOk P w K mg base CX0 1 fW dW ["saying"] spWithin) (bW:Binds K dW ["saying"] []) (kW:PySem.W.keepIn K (.ref fW) = true) (mW:mg "within" = some (.ref fW))
    (bS:Binds K fd ["saying"] []) (kS:PySem.W.keepIn K (.ref f) = true) (mS:mg "greatest_rank" = some (.ref f)) (mm:mg "max" = none):∀ D,FnOk P w K mg base CX0 (2+D) f fd ["saying"] (spGreat D):=by
  intro D
  induction D with
  | zero =>
    refine F.ok scGreat (fun vs H Q E h=>?_) (fun cdv A outer s H vs Q E hr h=>?_)
    · refine xe2 h fun v s y42=>?_
      obtain ⟨rfl,_⟩:=y42
      rfl
    refine xe2 h fun v s y44=>?_
    obtain ⟨rfl,_,hd,_⟩:=y44
    exact absurd (Nat.le_trans s.depth_pos hd) (by decide)
  | succ D ih =>
    refine F.ok scGreat (fun vs H Q E h=>?_) (fun cdv A outer s H vs Q E hr h=>?_)
    · refine xe2 h fun v s y48=>?_
      obtain ⟨rfl,_⟩:=y48
      rfl
    refine xe2 h fun v s y50=>?_
    obtain ⟨rfl,hs,hd,q⟩:=y50
    have hr1:L2.Room 1 _:=hr.mono (by show 1≤2+D; omega)
    refine ⟨_,pss_cut (fun σ H2=>σ = [some v,some (.int (Ha.inner s:Int))]∧Same H H2) (ps_set (i:=1) scGreat.nd rfl (Or.inl rfl) (pe_maxD rfl rfl mm (pe_comp (N:=["part"]) (capt:=[none]) rfl (pi_list (pe_call GW hr1 rfl mW kW bW .nil pass0 (pa_cons (pv 0) pa_nil))) rfl (by repeat (first | exact .nil | refine .cons rfl ?_))
        (by repeat (first | exact .nil | refine .skip (by decide) (by decide) ?_ | refine .free ⟨_,rfl⟩ ?_)) (.tgt .nil)
        (fun _ _ _ _ _=>pg_name (i:=0) ndPart rfl (Or.inl rfl)) (fun _ _ _ _ _=>pif_nil)
        (fun _ _ _ _ _=>pe_call ih hr rfl mS kS bS .nil pass0 (pa_cons (pv 0) pa_nil))) pe_int))
      (pss_cons (ps_if (pt_cmpR op_eq (pe_ix ix_tup (pv 0) pe_int (fun _ _=>rfl)) pe_str (nomark _)) (pss_one (ps_ret (pe_op op_sub (pe_op op_add (pv 1) pe_int) (pe_op op_mod (pv 1) pe_int)))) pss_nil)
      (pss_cons (ps_if (pt_cmpR op_eq (pe_ix ix_tup (pv 0) pe_int (fun _ _=>rfl)) pe_str (nomark _)) (pss_one (ps_ret (pe_op op_add (pv 1) (pe_op op_mod (pv 1) pe_int)))) pss_nil)
      (pss_one (ps_ret (pv 1))))),?_⟩
    first | dsimp only [nxK,nxP,nxW] | skip
    refine ⟨(xr0 rfl (xn2 _ s ⟨rfl,hs,fun l H1 us s1 _ hl pr=>⟨l,rfl,⟨_,SqL.of hl⟩,?_⟩⟩)),?_⟩
    · have lx:s.subs.length = us.length:=Paired.length pr
      have al:s.subs.length≤2:=by cases s<;>simp [Sy.subs]
      refine comp_list (K:=K) (a:=l) (xs:=us) (fun C i ys H2=>Same H1 H2∧H1 C = none∧H2 C = some (.lst ys)∧ys = (((s.subs.take i).map Ha.grank).map fun (n:Nat)=>(n:Int)).map V.int) ?_ ?_ ?_ ?_
      · exact fun C hC=>⟨same_new hC _,hC,upd_same,rfl⟩
      · rintro C i ys H2 hi ⟨sm,hC,h2,ey⟩
        refine ⟨SqL.of (sm _ _ hl),h2,fun _=>?_⟩
        rw [ey]
        exact small1000 (by simp; omega)
      · rintro C i x ys H2 hx ⟨sm,hC,h2,ey⟩
        obtain ⟨r,hr',hxr⟩:=pair_backG pr hx
        obtain ⟨hi,er⟩:=List.getElem?_eq_some_iff.mp hr'
        have dl:=Sy.depth_subs (List.mem_of_getElem? hr')
        refine ⟨trivial,xr0 rfl (xn2 _ r ⟨rfl,hxr.same sm,by omega,fun H3 s3=>⟨s3 _ _ h2,fun b o e=>?_,hC,upd_same,?_⟩⟩)⟩
        · rw [upd_ne (ne_of_none e hC)]
          exact s3 _ _ (sm b o e)
        · rw [ey,List.take_succ_eq_append_getElem hi,er]
          simp
      rintro C ys H2 ⟨sm,hC,h2,ey⟩
      rw [← lx,List.take_length] at ey
      refine ⟨C,(s.subs.map Ha.grank).map fun (n:Nat)=>(n:Int),0,rfl,rfl,by rw [← ey]; exact SqL.of h2,fun e=>?_,fun ne M hM hall=>?_⟩
      · have e':s.subs.map Ha.grank = []:=by simpa using e
        refine ⟨?_,s1.trans sm⟩
        rw [Ha.inner,e']
        rfl
      · rw [maxN (fun e=>ne (by rw [e]; rfl)) hM hall]
        exact ⟨rfl,s1.trans sm⟩
    rintro _ H2 ⟨rfl,s2⟩
    refine xe2 (hs.args) fun a xs y88=>?_
    obtain ⟨rfl,ha,_⟩:=y88
    have a2:=s2 _ _ ha
    have gi:=Ha.grank_inner s
    generalize Ha.inner s = m at gi ⊢
    have fin:∀ z:Int,z = (Ha.grank s:Int)→Q (.int z) H2:=fun z hz=>by rw [hz]; exact q H2 s2
    refine (xr0 rfl (xn4 a _ _ _ ⟨rfl,rfl,SqT.of a2,at0,rfl,xr0 rfl (ifS (fun e=>?_) (fun ne=>?_))⟩))
    · obtain ⟨b,x,u,rfl⟩:=Sy.kind_bind (s:=s) (by rw [e]; decide)
      have hb:b = true:=by
        cases b with
        | true=>rfl
        | false=>exact absurd e (by simp only [Sy.kind]; decide)
      subst hb
      refine (xr0 rfl (xr2 rfl rfl (xr0 rfl (xr2 rfl rfl ⟨(by show (0:Int) < 2; decide),xr2 rfl rfl (fin _ ?_)⟩))))
      rw [gi]
      simp only [if_true]
      omega
    · refine (xr0 rfl (xn4 a _ _ _ ⟨rfl,rfl,SqT.of a2,at0,rfl,xr0 rfl (ifS (fun e=>?_) (fun ne2=>?_))⟩))
      · obtain ⟨b,x,u,rfl⟩:=Sy.kind_bind (s:=s) (by rw [e]; decide)
        have hb:b = false:=by
          cases b with
          | false=>rfl
          | true=>exact absurd rfl ne
        subst hb
        refine (xr0 rfl (xr0 rfl (xr2 rfl rfl ⟨(by show (0:Int) < 2; decide),xr2 rfl rfl (fin _ ?_)⟩)))
        rw [gi]
        simp
      · refine (xr0 rfl (fin _ ?_))
        rw [gi]
        cases s with
        | bn b x u =>
          cases b with
          | true=>exact absurd rfl ne
          | false=>exact absurd rfl ne2
        | _=>rfl
def spHandOf:Sp:=fun vs H Q _=>∃ (v:V) (s:Sy),vs = [v]∧SyAt H s v∧∀ H',Same H H'→Q (.int (Ha.hand s:Int)) H'
theorem scHandOf:FnScope ["part"] ["part"] (defScope sHandOf):=⟨rfl,rfl,rfl,by decide +kernel,rfl,by decide +kernel,by decide +kernel⟩
theorem ok_handof (F:Fun K "hand_of" "hand_of" sHandOf f fd):FnOk P w K mg base CX0 1 f fd ["part"] spHandOf:=by
  refine F.ok scHandOf (fun vs H Q E h=>?_) (fun cdv A outer s H vs Q E hr h=>?_)
  · refine xe2 h fun v s y126=>?_
    obtain ⟨rfl,_⟩:=y126
    rfl
  refine xe2 h fun v s y128=>?_
  obtain ⟨rfl,hs,q⟩:=y128
  refine ⟨_,pss_one (ps_ret (pe_ifExp (pt_cmpR op_in_seq (pe_ix ix_tup (pv 0) pe_int (fun _ _=>rfl)) (pe_tup (pa_cons pe_str (pa_cons pe_str pa_nil))) rfl) pe_int pe_int)),?_⟩
  first | dsimp only [nxK,nxP,nxW] | skip
  refine xe2 (hs.args) fun a xs y131=>?_
  obtain ⟨rfl,ha,_⟩:=y131
  refine (xr0 rfl (xn4 a _ _ _ ⟨rfl,rfl,SqT.of ha,at0,(by show 2≤sizeLine; decide),fun t ht=>?_⟩))
  have s1:=same_new ht (.tup [V.str "both",V.str "every"])
  refine (xn2 t ((["both","every"]:List Str).map V.str) ⟨rfl,.inr (SqT.of upd_same),rfl,flatS _,xr0 rfl ?_⟩)
  rw [inS]
  have key:decide (s.kind∈(["both","every"]:List Str)) = decide (Ha.hand s = 1):=by
    cases s with
    | nm x=>rfl
    | y0 b=>cases b<;>rfl
    | mk b x=>cases b<;>rfl
    | st b x=>cases b<;>rfl
    | pr b x y=>cases b<;>rfl
    | bn b x y=>cases b<;>rfl
  have two:Ha.hand s = 0∨Ha.hand s = 1:=by
    cases s with
    | st b x=>cases b<;>simp [Ha.hand]
    | pr b x y=>cases b<;>simp [Ha.hand]
    | _=>simp [Ha.hand]
  have z:=q _ s1
  rw [key]
  rcases two with e | e
  · rw [decide_eq_false (by omega)]
    rw [e] at z
    exact iteF z
  · rw [decide_eq_true e]
    rw [e] at z
    exact iteT z
def spRankOf (D:Nat):Sp:=fun vs H Q _=>∃ (v:V) (s:Sy),vs = [v]∧SyAt H s v∧s.depth≤D∧∀ H',Same H H'→Q (.int (Ha.rk s:Int)) H'
theorem scRankOf:FnScope ["part"] ["part"] (defScope sRankOf):=⟨rfl,rfl,rfl,by decide +kernel,rfl,by decide +kernel,by decide +kernel⟩
theorem ok_rankof (F:Fun K "rank_of" "rank_of" sRankOf f fd) {D:Nat} {fG aB:Addr} {dG:FuncData} (GG:FnOk P w K mg base CX0 (2+D) fG dG ["saying"] (spGreat D)) (bG:Binds K dG ["saying"] []) (kG:PySem.W.keepIn K (.ref fG) = true) (mG:mg "greatest_rank" = some (.ref fG))
    (mBi:mg "BINDERS" = some (.ref aB)) (kBi:∀ H,SqT K H aB ((["least","most"]:List Str).map V.str)):FnOk P w K mg base CX0 (2+D+1) f fd ["part"] (spRankOf D):=by
  refine F.ok scRankOf (fun vs H Q E h=>?_) (fun cdv A outer s H vs Q E hr h=>?_)
  · refine xe2 h fun v s y163=>?_
    obtain ⟨rfl,_⟩:=y163
    rfl
  refine xe2 h fun v s y165=>?_
  obtain ⟨rfl,hs,hd,q⟩:=y165
  refine ⟨_,pss_one (ps_ret (pe_ifExp (pt_cmpR op_in_seq (pe_ix ix_tup (pv 0) pe_int (fun _ _=>rfl)) (pe_glob (v:=.ref aB) rfl mBi rfl) rfl) (pe_call GG hr rfl mG kG bG .nil pass0 (pa_cons (pv 0) pa_nil)) pe_int)),?_⟩
  first | dsimp only [nxK,nxP,nxW] | skip
  refine xe2 (hs.args) fun a xs y168=>?_
  obtain ⟨rfl,ha,_⟩:=y168
  refine (xr0 rfl (xn4 a _ _ _ ⟨rfl,rfl,SqT.of ha,at0,aB,_,rfl,.inr (kBi _),rfl,flatS _,_,rfl,?_⟩))
  rw [inS]
  by_cases hk:s.kind∈(["least","most"]:List Str)
  · rw [decide_eq_true hk]
    refine xe3 (Sy.kind_bind hk) fun b x u y173=>?_
    obtain rfl:=y173
    exact iteT (xr0 rfl (xn2 _ _ ⟨rfl,hs,hd,q⟩))
  · rw [decide_eq_false hk]
    refine iteF ?_
    have z:=q H (Same.refl H)
    have e:Ha.rk s = 0:=by
      cases s with
      | bn b x u=>exact absurd (Sy.bind_kind b) hk
      | _=>rfl
    rw [e] at z
    exact z
def spSelf:Sp:=fun vs H Q _=>∃ (v:V) (s:Sy) (m:Str),vs = [v,.str m]∧SyAt H s v∧Q (.bl (selfAt s m)) H
theorem ok_self (F:Fun K "holds_by_itself" "holds_by_itself" sByItself f fd):FnOk P w K mg base CX0 1 f fd ["saying","marks"] spSelf:=by
  refine F.ok scByItself (fun vs H Q E h=>?_) (fun cdv A outer s H vs Q E hr h=>?_)
  · refine xe3 h fun v s m y187=>?_
    obtain ⟨rfl,_⟩:=y187
    rfl
  refine xe3 h fun v s m y189=>?_
  obtain ⟨rfl,hs,q⟩:=y189
  refine ⟨_,pss_cons (ps_if (pt_cmpR op_eq (pe_ix ix_tup (pv 0) pe_int (fun _ _=>rfl)) pe_str (nomark _)) (pss_one (ps_ret (pe_cmpR op_in_str (pe_ix ix_tup (pv 0) pe_int (fun _ _=>rfl)) (pv 1) rfl))) pss_nil)
    (pss_cons (ps_if (pt_cmpR op_eq (pe_ix ix_tup (pv 0) pe_int (fun _ _=>rfl)) pe_str (nomark _)) (pss_one (ps_ret (pe_cmpR op_notIn_str (pe_ix ix_tup (pv 0) pe_int (fun _ _=>rfl)) (pv 1) rfl))) pss_nil)
    (pss_one (ps_ret (pe_cmpR op_eq (pe_ix ix_tup (pv 0) pe_int (fun _ _=>rfl)) pe_str (nomark _))))),?_⟩
  first | dsimp only [nxK,nxP,nxW] | skip
  by_cases hmk:∃ b x,s = .mk b x
  · refine xe2 hmk fun b x y195=>?_
    obtain rfl:=y195
    obtain ⟨a,rfl,ha⟩:=hs
    refine (xr0 rfl (xn4 a _ _ _ ⟨rfl,rfl,SqT.of ha,at0,rfl,xr0 rfl (ifS (fun e=>?_) (fun e=>?_))⟩))
    · cases b with
      | false=>exact absurd e (by decide)
      | true =>
        refine (xr0 rfl (xn4 a _ _ _ ⟨rfl,rfl,SqT.of ha,at1,_,rfl,_,_,rfl,rfl,?_⟩))
        have z:(Se.inM x m == true) = Se.inM x m:=by cases Se.inM x m<;>rfl
        rw [selfAt,z] at q
        exact q
    · cases b with
      | true=>exact absurd rfl e
      | false =>
        refine (xr0 rfl (xn4 a _ _ _ ⟨rfl,rfl,SqT.of ha,at0,rfl,xr0 rfl (ifS (fun _=>?_) (fun e=>absurd rfl e))⟩))
        refine (xr0 rfl (xn4 a _ _ _ ⟨rfl,rfl,SqT.of ha,at1,_,rfl,_,_,rfl,rfl,?_⟩))
        have z:(Se.inM x m == false) = !Se.inM x m:=by cases Se.inM x m<;>rfl
        rw [selfAt,z] at q
        exact q
  · refine xe2 (hs.args) fun a xs y213=>?_
    obtain ⟨rfl,ha,_⟩:=y213
    have k1:s.kind≠"mark"∧s.kind≠"unmark":=by
      cases s with
      | nm x=>simp only [Sy.kind]; decide
      | y0 b=>cases b<;>simp only [Sy.kind]<;>decide
      | mk b x=>exact absurd ⟨b,x,rfl⟩ hmk
      | st b x=>cases b<;>simp only [Sy.kind]<;>decide
      | pr b x y=>cases b<;>simp only [Sy.kind]<;>decide
      | bn b x y=>cases b<;>simp only [Sy.kind]<;>decide
    refine (xr0 rfl (xn4 a _ _ _ ⟨rfl,rfl,SqT.of ha,at0,rfl,xr0 rfl (ifS (fun e=>absurd e k1.1) (fun _=>?_))⟩))
    refine (xr0 rfl (xn4 a _ _ _ ⟨rfl,rfl,SqT.of ha,at0,rfl,xr0 rfl (ifS (fun e=>absurd e k1.2) (fun _=>?_))⟩))
    refine (xr0 rfl (xn4 a _ _ _ ⟨rfl,rfl,SqT.of ha,at0,rfl,?_⟩))
    have e:decide (V.str s.kind = V.str "yes") = selfAt s m:=by
      have dd:∀ x:Str,decide (V.str x = V.str "yes") = decide (x = "yes"):=fun x=>decide_eq_decide.mpr ⟨fun z=>by injection z,fun z=>by rw [z]⟩
      rw [dd]
      cases s with
      | nm x=>rfl
      | y0 b=>cases b<;>rfl
      | mk b x=>exact absurd ⟨b,x,rfl⟩ hmk
      | st b x=>cases b<;>rfl
      | pr b x y=>cases b<;>rfl
      | bn b x y=>cases b<;>rfl
    rw [e]
    exact q
def spEnd:Sp:=fun vs H Q _=>∃ (v:V) (s:Sy) (m:Str),vs = [v,.str m]∧SyAt H s v∧Q (.bl (Ha.endH s m)) H
theorem scEnd:FnScope ["part","marks"] ["part","marks"] (defScope sEnd):=⟨rfl,rfl,rfl,by decide +kernel,rfl,by decide +kernel,by decide +kernel⟩
theorem ok_end (F:Fun K "holds_at_the_end" "holds_at_the_end" sEnd f fd) {fB:Addr} {dB:FuncData} (GB:FnOk P w K mg base CX0 1 fB dB ["saying","marks"] spSelf) (bB:Binds K dB ["saying","marks"] []) (kB:PySem.W.keepIn K (.ref fB) = true) (mB:mg "holds_by_itself" = some (.ref fB)):FnOk P w K mg base CX0 2 f fd ["part","marks"] spEnd:=by
  refine F.ok scEnd (fun vs H Q E h=>?_) (fun cdv A outer s H vs Q E hr h=>?_)
  · refine xe3 h fun v s m y241=>?_
    obtain ⟨rfl,_⟩:=y241
    rfl
  refine xe3 h fun v s m y243=>?_
  obtain ⟨rfl,hs,q⟩:=y243
  refine ⟨_,pss_one (ps_ret (pe_or (pe_cmpR op_eq (pe_ix ix_tup (pv 0) pe_int (fun _ _=>rfl)) pe_str (nomark _)) (pe_one (pe_call GB hr rfl mB kB bB .nil pass0 (pa_cons (pv 0) (pa_cons (pv 1) pa_nil)))))),?_⟩
  first | dsimp only [nxK,nxP,nxW] | skip
  refine xe2 (hs.args) fun a xs y246=>?_
  obtain ⟨rfl,ha,_⟩:=y246
  refine (xr0 rfl (xn4 a _ _ _ ⟨rfl,rfl,SqT.of ha,at0,rfl,xr0 rfl (ifS (fun e=>?_) (fun ne=>?_))⟩))
  · obtain ⟨b,u,rfl⟩:=Sy.kind_stq (s:=s) (by rw [e]; decide)
    cases b with
    | true=>exact absurd e (by simp only [Sy.kind]; decide)
    | false=>exact q
  · refine (xr0 rfl (xr0 rfl (xn3 _ s m ⟨rfl,hs,?_⟩)))
    have e:Ha.endH s m = selfAt s m:=by
      cases s with
      | st b u =>
        cases b with
        | false=>exact absurd rfl ne
        | true=>rfl
      | _=>rfl
    rw [e] at q
    exact q
end
end Law

namespace L2
open PySem
theorem atLast {xs:List Nat} {x:Nat}:atI (natsV (xs++[x])) (-1) = some (.int (x:Int)):=by
  unfold atI ixN
  have hl:(natsV (xs++[x])).length = xs.length+1:=by simp [natsV]
  rw [if_neg (by decide),if_pos (by rw [hl]; omega),Option.bind_some,hl,show (-1+((xs.length+1:Nat):Int)).toNat = xs.length by omega]
  simp [natsV]
theorem natsV_snoc (xs:List Nat) (x:Nat):natsV (xs++[x]) = natsV xs++[.int (x:Int)]:=by simp [natsV]
theorem natsV_len (xs:List Nat):(natsV xs).length = xs.length:=by simp [natsV]
end L2
namespace Law
open PySem L2
section
seal PA PE PS PSs PT PI PG PGs PIf
variable {P:Program} {w:World} {K:PySem.W.Frag} {mg:Str→Option Value} {base:Heap} {f g:Addr} {fd gd:FuncData}
def spWaysFrom:Sp:=fun vs H Q _=>∃ (N:Nat) (l:Addr) (W:Wo N) (us:List V) (i:Fin N) (v:V) (s:Sy) (q:Addr) (ls:List Nat) (M:Nat),vs = [.ref l,.int (i.val:Int),v,.ref q,.int (M:Int)]∧WorldAt H l W us∧SyAt H s v∧H q = some (.tup (natsV ls))∧((∃ b u,s = .st b u)→ls≠[])∧ls.length≤2∧N≤900∧W.rises ∧
  ∀ t H',Same H H'→H' t = some (.tup (natsV (Ha.ways W i (s,ls) M)))→Q (.ref t) H'
theorem scWaysFrom:FnScope ["world","place","part","leads","size"] ["world","place","part","leads","size"] (defScope sWaysFrom):=⟨rfl,rfl,rfl,by decide +kernel,rfl,by decide +kernel,by decide +kernel⟩
theorem ndWLS:(["way","leads","size"]:List Str).Nodup:=by decide +kernel
theorem ndLPS:(["lead","place","size"]:List Str).Nodup:=by decide +kernel
theorem ok_waysfrom (F:Fun K "ways_from" "ways_from" sWaysFrom f fd) (mt:mg "tuple" = none):FnOk P w K mg base CX0 1 f fd ["world","place","part","leads","size"] spWaysFrom:=by
  refine F.ok scWaysFrom (fun vs H Q E h=>?_) (fun cdv A outer s H vs Q E hr h=>?_)
  · obtain ⟨N,l,W,us,i,v,s,q,ls,M,rfl,_⟩:=h
    rfl
  obtain ⟨N,l,W,us,i,v,s,qa,ls,M,rfl,hW,hs,hq,hst,hl2,hN,hri,q⟩:=h
  have iN:=i.isLt
  refine ⟨_,pss_cons (ps_if (pt_cmpR op_in_seq (pe_ix ix_tup (pv 2) pe_int (fun _ _=>rfl)) (pe_tup (pa_cons pe_str (pa_cons pe_str pa_nil))) rfl)
      (pss_one (ps_ret (pe_callTy call_tuple_of rfl mt PyProof.Rows.boot_tuple (pa_cons (pe_comp (N:=["way","leads","size"]) (capt:=[none,some 3,some 4]) rfl (pi_tup (pe_ix ix_tup (pe_ix ix_list (pv 0) (pv 1) (fun _ _=>rfl)) pe_int (fun _ _=>rfl))) rfl (by repeat (first | exact .nil | refine .cons rfl ?_))
        (by repeat (first | exact .nil | refine .skip (by decide) (by decide) ?_ | refine .free ⟨_,rfl⟩ ?_)) (.tgt (.var rfl (.inl rfl) ⟨_,rfl⟩ (.inl rfl) (.var rfl (.inl rfl) ⟨_,rfl⟩ (.inl rfl) .nil)))
        (fun _ _ _ _ _=>pg_name (i:=0) ndWLS rfl (Or.inl rfl)) (fun _ _ _ _ _=>pif_nil)
        (fun _ _ _ _ _=>pe_op op_add (pe_op op_mul (pv 0) (pv 2)) (pe_ix (ixT K) (pv 1) pe_int (fun _ _=>rfl)))) pa_nil)))) pss_nil)
    (pss_one (ps_ret (pe_callTy call_tuple_of rfl mt PyProof.Rows.boot_tuple (pa_cons (pe_comp (N:=["lead","place","size"]) (capt:=[none,some 1,some 4]) rfl (pi_tup (pv 3)) rfl (by repeat (first | exact .nil | refine .cons rfl ?_))
        (by repeat (first | exact .nil | refine .skip (by decide) (by decide) ?_ | refine .free ⟨_,rfl⟩ ?_)) (.tgt (.var rfl (.inl rfl) ⟨_,rfl⟩ (.inl rfl) (.var rfl (.inl rfl) ⟨_,rfl⟩ (.inl rfl) .nil)))
        (fun _ _ _ _ _=>pg_name (i:=0) ndLPS rfl (Or.inl rfl)) (fun _ _ _ _ _=>pif_nil)
        (fun _ _ _ _ _=>pe_op op_add (pe_op op_mul (pv 1) (pv 2)) (pv 0))) pa_nil)))),?_⟩
  first | dsimp only [nxK,nxP,nxW] | skip
  refine xe2 (hs.args) fun a xs y40=>?_
  obtain ⟨rfl,ha,_⟩:=y40
  refine (xr0 rfl (xn4 a _ _ _ ⟨rfl,rfl,SqT.of ha,at0,(by show 2≤sizeLine; decide),fun t ht=>?_⟩))
  have s1:=same_new ht (.tup [V.str "some",V.str "every"])
  generalize hH1:upd H t (.tup [V.str "some",V.str "every"]) = H1 at s1
  have e1:H1 t = some (.tup ((["some","every"]:List Str).map V.str)):=by rw [← hH1]; exact upd_same
  refine (xn2 t _ ⟨rfl,.inr (SqT.of e1),rfl,flatS _,xr0 rfl ?_⟩)
  rw [inS]
  by_cases hk:s.kind∈(["some","every"]:List Str)
  · rw [decide_eq_true hk]
    refine xe2 (Sy.kind_stq hk) fun b u y49=>?_
    obtain rfl:=y49
    refine xe2 (List.exists_cons_of_ne_nil (hst ⟨b,u,rfl⟩)) fun l0 lr y50=>?_
    obtain rfl:=y50
    have hW1:=hW.same s1
    obtain ⟨pv',ev,pa,wa,rfl,hpa,hwa⟩:=hW1.at' i
    refine iteT (xr0 rfl (xr0 rfl (xn4 l _ _ _ ⟨rfl,rfl,SqL.of hW1.lst,atI_nat ev,pa,_,_,_,rfl,rfl,SqT.of hpa,at1,wa,rfl,⟨_,SqT.of hwa⟩,?_⟩)))
    have wl:=rises_lenN hri i
    refine comp_tup (K:=K) (a:=wa) (xs:=((W.ws i).map Fin.val).map fun (w:Nat)=>V.int (w:Int)) (fun C j ys H2=>Same H1 H2∧H1 C = none∧H2 C = some (.lst ys)∧ys = natsV (((W.ws i).take j).map fun w=>w.val*M+l0)) ?_ ?_ ?_ ?_
    · exact fun C hC=>⟨same_new hC _,hC,upd_same,rfl⟩
    · rintro C j ys H2 hj ⟨sm,hC,h2,ey⟩
      refine ⟨SqT.of (sm _ _ hwa),h2,fun _=>?_⟩
      rw [ey,natsV_len,List.length_map,List.length_take]
      exact small1000 (by omega)
    · rintro C j x ys H2 hx ⟨sm,hC,h2,ey⟩
      rw [List.getElem?_map,List.getElem?_map] at hx
      obtain ⟨n,en,rfl⟩:=Option.map_eq_some_iff.mp hx
      obtain ⟨wv,ew,rfl⟩:=Option.map_eq_some_iff.mp en
      have wlt:=wv.isLt
      refine ⟨⟨rfl,rfl,trivial⟩,_,rfl,_,rfl,_,_,rfl,rfl,.inl ⟨by omega,by omega⟩,_,rfl,qa,_,_,_,rfl,rfl,SqT.of ((s1.trans sm) _ _ hq),at0,_,_,rfl,rfl,h2,fun c o ec=>?_,hC,upd_same,?_⟩
      · rw [upd_ne (ne_of_none ec hC)]
        exact sm c o ec
      · obtain ⟨hj,ej⟩:=List.getElem?_eq_some_iff.mp ew
        rw [ey,List.take_succ_eq_append_getElem hj,ej,List.map_append,List.map_singleton,natsV_snoc]
        congr 2
    · rintro C ys H2 ⟨sm,hC,h2,ey⟩
      rw [List.length_map,List.length_map,List.take_length] at ey
      subst ey
      exact (xn2 C _ ⟨rfl,.inl ⟨SqL.of h2,fun t2 ht2=>q t2 _ (s1.trans (sm.trans (same_new ht2 _))) upd_same⟩⟩)
  · rw [decide_eq_false hk]
    refine iteF (xr0 rfl ⟨qa,rfl,⟨_,SqT.of (s1 _ _ hq)⟩,?_⟩)
    have ew:Ha.ways W i (s,ls) M = ls.map fun l=>i.val*M+l:=by
      cases s with
      | st b u=>exact absurd (Sy.stq_kind b) hk
      | _=>rfl
    refine comp_tup (K:=K) (a:=qa) (xs:=natsV ls) (fun C j ys H2=>Same H1 H2∧H1 C = none∧H2 C = some (.lst ys)∧ys = natsV ((ls.take j).map fun l=>i.val*M+l)) ?_ ?_ ?_ ?_
    · exact fun C hC=>⟨same_new hC _,hC,upd_same,rfl⟩
    · rintro C j ys H2 hj ⟨sm,hC,h2,ey⟩
      refine ⟨SqT.of ((s1.trans sm) _ _ hq),h2,fun _=>?_⟩
      rw [ey,natsV_len,List.length_map,List.length_take]
      exact small1000 (by omega)
    · rintro C j x ys H2 hx ⟨sm,hC,h2,ey⟩
      rw [natsV,List.getElem?_map] at hx
      obtain ⟨n,en,rfl⟩:=Option.map_eq_some_iff.mp hx
      refine ⟨⟨rfl,rfl,trivial⟩,_,rfl,_,rfl,_,_,rfl,rfl,.inl ⟨by omega,by omega⟩,_,rfl,_,_,rfl,rfl,h2,fun c o ec=>?_,hC,upd_same,?_⟩
      · rw [upd_ne (ne_of_none ec hC)]
        exact sm c o ec
      · obtain ⟨hj,ej⟩:=List.getElem?_eq_some_iff.mp en
        rw [ey,List.take_succ_eq_append_getElem hj,ej,List.map_append,List.map_singleton,natsV_snoc]
        congr 2
    · rintro C ys H2 ⟨sm,hC,h2,ey⟩
      rw [natsV_len,List.take_length,← ew] at ey
      subst ey
      exact (xn2 C _ ⟨rfl,.inl ⟨SqL.of h2,fun t2 ht2=>q t2 _ (s1.trans (sm.trans (same_new ht2 _))) upd_same⟩⟩)
def spNumbered (D:Nat):Sp:=fun vs H Q _=>∃ (v:V) (s:Sy) (n:Nat) (d:Addr) (B:List Str) (e:Ha.NE),vs = [v,.int (n:Int),.ref d]∧SyAt H s v∧NumAt H d B e∧s.ok B∧s.depth≤D∧s.size≤400∧B.length+D≤900 ∧
  ∀ l H' us,Same H H'→H l = none→H' l = some (.lst us)→Paired (PartAt true H') (Ha.rows s n e) us→Q (.ref l) H'
theorem scNumbered:FnScope ["saying","number","binders","inner","leads","rows","part"] ["saying","number","binders"] (defScope sNumbered):=⟨rfl,rfl,rfl,by decide +kernel,rfl,by decide +kernel,by decide +kernel⟩
def midNu (v:V) (d:Addr) (n:Nat) (B:List Str) (H:Hp) (s:Sy) (e:Ha.NE):St→Hp→Prop:=fun σ H2=>∃ di B',σ = [some v,some (.int (n:Int)),some (.ref d),some (.ref di),none,none,none]∧Same H H2∧H di = none∧NumAt H2 di B' (Ha.into s n e)∧(∀ u∈s.subs,u.ok B')∧B'.length≤B.length+1
theorem ok_numbered (F:Fun K "numbered" "numbered" sNumbered f fd) {fW aB:Addr} {dW:FuncData} (GW:FnOk P w K mg base CX0 1 fW dW ["saying"] spWithin) (bW:Binds K dW ["saying"] []) (kW:PySem.W.keepIn K (.ref fW) = true) (mW:mg "within" = some (.ref fW))
    (bS:Binds K fd ["saying","number","binders"] []) (kS:PySem.W.keepIn K (.ref f) = true) (mS:mg "numbered" = some (.ref f)) (mBi:mg "BINDERS" = some (.ref aB)) (kBi:∀ H,SqT K H aB ((["least","most"]:List Str).map V.str)) (md:mg "dict" = none) (mt:mg "tuple" = none) (ml:mg "len" = none) :
    ∀ D,FnOk P w K mg base CX0 (2+D) f fd ["saying","number","binders"] (spNumbered D):=by
  intro D
  induction D with
  | zero =>
    refine F.ok scNumbered (fun vs H Q E h=>?_) (fun cdv A outer s H vs Q E hr h=>?_)
    · refine xe6 h fun v s n d B e y113=>?_
      obtain ⟨rfl,_⟩:=y113
      rfl
    refine xe6 h fun v s n d B e y115=>?_
    obtain ⟨rfl,_,_,_,hd,_⟩:=y115
    exact absurd (Nat.le_trans s.depth_pos hd) (by decide)
  | succ D ih =>
    refine F.ok scNumbered (fun vs H Q E h=>?_) (fun cdv A outer s H vs Q E hr h=>?_)
    · refine xe6 h fun v s n d B e y119=>?_
      obtain ⟨rfl,_⟩:=y119
      rfl
    refine xe6 h fun v s n d B e y121=>?_
    obtain ⟨rfl,hs,he,hok,hd,hz,hBD,q⟩:=y121
    have hr1:L2.Room 1 _:=hr.mono (by show 1≤2+D; omega)
    have hu:_+1 < cLine:=Nat.lt_of_le_of_lt (Nat.add_le_add_left (by decide:1≤64) _) hr.units
    refine ⟨_,pss_cons (ps_if (pt_cmpR op_eq (pe_ix ix_tup (pv 0) pe_int (fun _ _=>rfl)) pe_str (nomark _)) (pss_one (ps_ret (pe_lst (pa_cons (pe_tup (pa_cons (pv 0) (pa_cons (pe_tup (pa_cons (pe_dget hu (pv 2) (pe_ix ix_tup (pv 0) pe_int (fun _ _=>rfl)) (fun _ _=>rfl)) pa_nil)) pa_nil))) pa_nil)))) pss_nil)
      (pss_cons (ps_set (i:=3) scNumbered.nd rfl (Or.inl rfl) (pe_callTy call_dictD rfl md PyProof.Rows.boot_dict (pa_cons (pv 2) pa_nil)))
      (pss_cut (midNu v d n B H s e) (ps_if (pt_cmpR op_in_seq (pe_ix ix_tup (pv 0) pe_int (fun _ _=>rfl)) (pe_glob (v:=.ref aB) rfl mBi rfl) rfl) (pss_one (ps_dput hu (pv 3) (pe_ix ix_tup (pv 0) pe_int (fun _ _=>rfl)) (pv 1) rfl)) pss_nil)
      (pss_cons (ps_set (i:=4) scNumbered.nd rfl (Or.inl rfl) (pe_lst pa_nil))
      (pss_cons (ps_set (i:=5) scNumbered.nd rfl (Or.inl rfl) (pe_lst pa_nil))
      (pss_cons (ps_for PassesOwn.never rfl (pi_list (pe_call GW hr1 rfl mW kW bW .nil pass0 (pa_cons (pv 0) pa_nil))) (pg_name (i:=6) scNumbered.nd rfl (Or.inl rfl))
        (pss_cons (ps_expr (pe_bm PySem.F.plainAttrs_list PySem.F.slot_list_append PySem.F.type_list_append mt_append (pv 4) (pa_cons (pe_op op_add (pe_op op_add (pv 1) pe_int) (pe_callB call_len_seq rfl ml PySem.boot_len (pa_cons (pv 5) pa_nil))) pa_nil)))
        (pss_one (ps_expr (pe_bm PySem.F.plainAttrs_list PySem.F.slot_list_extend PySem.F.type_list_extend mt_extend (pv 5) (pa_cons (pe_call ih hr rfl mS kS bS .nil pass0 (pa_cons (pv 6) (pa_cons (pe_ix ix_list (pv 4) (pe_un un_neg pe_int) (fun _ _=>rfl)) (pa_cons (pv 3) pa_nil)))) pa_nil))))))
      (pss_one (ps_ret (pe_op op_cat (pe_lst (pa_cons (pe_tup (pa_cons (pv 0) (pa_cons (pe_callTy call_tuple_of rfl mt PyProof.Rows.boot_tuple (pa_cons (pv 4) pa_nil)) pa_nil))) pa_nil)) (pv 5))))))))),?_⟩
    first | dsimp only [nxK,nxP,nxW] | skip
    refine xe2 (id hs.args) fun a xs y134=>?_
    obtain ⟨rfl,ha,pr⟩:=y134
    refine seqK fun kk1 qq1=>?_
    refine (xr0 rfl (xn4 a _ _ _ ⟨rfl,rfl,SqT.of ha,at0,rfl,xr0 rfl (ifS (fun e1=>?_) (fun ne=>?_))⟩))
    · obtain ⟨x,rfl⟩:=Sy.kind_name e1
      cases pr with
      | cons p1 pr=>cases pr with
        | nil =>
          cases p1
          obtain ⟨kvs,hk,hkl,hx⟩:=he
          have dg:=DGet.k (k:=.inr x) hk
          rw [hx x hok] at dg
          refine (xr0 rfl (xr0 rfl (xr0 rfl (xn4 a _ _ _ ⟨rfl,rfl,SqT.of ha,at1,d,_,rfl,dg,(by show 1≤sizeLine; decide),fun t1 h1=>⟨(by show 2≤sizeLine; decide),fun t2 h2=>⟨(by show 1≤sizeLine; decide),fun l hl=>?_⟩⟩⟩))))
          have k1:=same_new h1 (.tup [V.int (e x:Int)])
          have k2:=same_new h2 (.tup [V.ref a,V.ref t1])
          have k3:=same_new hl (.lst [V.ref t2])
          exact q l _ _ (k1.trans (k2.trans k3)) ((k1.trans k2).free hl) upd_same (.cons (xn3 t2 t1 _ ⟨rfl,k3 _ _ upd_same,hs.same (k1.trans (k2.trans k3)),k3 _ _ (k2 _ _ upd_same)⟩) .nil)
    have hnm:∀ x,s≠.nm x:=fun x z=>ne (by rw [z]; rfl)
    obtain ⟨kvs0,hk0,hkl0,hkB⟩:=id he
    refine qq1 _ _ ?_
    refine seqK fun kk2 qq2=>?_
    refine (xr0 rfl (xn2 d kvs0 ⟨rfl,.inl hk0,fun di hdi=>?_⟩))
    refine qq2 _ _ ?_
    have s1:=same_new hdi (.dK kvs0)
    generalize hH1:upd H di (.dK kvs0) = H1 at s1
    have d1:H1 di = some (.dK kvs0):=by rw [← hH1]; exact upd_same
    refine ⟨(xr0 rfl (xn4 a _ _ _ ⟨rfl,rfl,SqT.of (s1 _ _ ha),at0,aB,_,rfl,.inr (kBi _),rfl,flatS _,_,rfl,?_⟩)),?_⟩
    · rw [inS]
      by_cases hk:s.kind∈(["least","most"]:List Str)
      · rw [decide_eq_true hk]
        refine xe3 (Sy.kind_bind hk) fun b x u y163=>?_
        obtain rfl:=y163
        cases pr with
        | cons p1 pr=>cases pr with
          | cons p2 pr=>cases pr with
            | nil =>
              cases p1
              refine iteT (xr0 rfl (xr0 rfl (xr0 rfl (xn4 a _ _ _ ⟨rfl,rfl,SqT.of (s1 _ _ ha),at1,di,_,rfl,DPut.k (k:=.inr x) d1 (small1000 (by omega)),?_⟩))))
              refine ⟨di,B++[x],rfl,fun c o ec=>?_,hdi,NumAt.put hkl0 hok.1 hkB upd_same,fun u' hu'=>?_,by simp⟩
              · rw [upd_ne (ne_of_none ec hdi)]
                exact s1 _ _ ec
              · rw [List.mem_singleton.mp (show u'∈[u] from hu')]
                exact hok.2.2
      · rw [decide_eq_false hk]
        have ei:Ha.into s n e = e:=by
          cases s with
          | bn b x u=>exact absurd (Sy.bind_kind b) hk
          | _=>rfl
        refine iteF ⟨di,B,rfl,s1,hdi,⟨kvs0,d1,hkl0,by rw [ei]; exact hkB⟩,fun u' hu'=>?_,by exact Nat.le_succ _⟩
        cases s with
        | bn b x u=>exact absurd (Sy.bind_kind b) hk
        | st b u=>rw [List.mem_singleton.mp (show u'∈[u] from hu')]; exact hok
        | pr b u u2 =>
          simp [Sy.subs] at hu'
          rcases hu' with z | z
          · rw [z]; exact hok.1
          · rw [z]; exact hok.2
        | _=>cases hu'
    rintro _ H2 z190
    refine xe2 z190 fun di2 B' y190=>?_
    obtain ⟨rfl,s2,hdi2,hnum,hokS,hB'⟩:=y190
    refine ⟨(by decide),fun la hla=>⟨(by decide),fun ra hra=>?_⟩⟩
    have k3:=(same_new hla (.lst [])).trans (same_new hra (.lst []))
    have la3:=same_new hra (.lst []) _ _ (upd_same (H:=H2) (a:=la) (o:=.lst []))
    have nela:la≠ra:=fun z=>by rw [← z,upd_same] at hra; cases hra
    have hraH:H2 ra = none:=by rw [upd_ne nela.symm] at hra; exact hra
    have s3:=s2.trans k3
    generalize hH3:upd (upd H2 la (.lst [])) ra (.lst []) = H3 at k3 s3 la3
    have ra3:H3 ra = some (.lst []):=by rw [← hH3]; exact upd_same
    refine (xr0 rfl (xn2 _ s ⟨rfl,hs.same s3,fun l H4 us s4 hl4 hl pr4=>⟨l,rfl,⟨_,SqL.of hl⟩,?_⟩⟩))
    have hl3a:l≠la:=fun z=>by rw [z,la3] at hl4; cases hl4
    have hl3r:l≠ra:=fun z=>by rw [z,ra3] at hl4; cases hl4
    have lx:s.subs.length = us.length:=Paired.length pr4
    have al:s.subs.length≤2:=by cases s<;>simp [Sy.subs]
    have hla4:=s4 _ _ la3
    have hra4:=s4 _ _ ra3
    have sz:=s.size_subs
    have szt:∀ i,((s.subs.take i).map Sy.size).sum≤s.size:=fun i=>by
      rw [List.map_take]
      have:=sum_take_le (s.subs.map Sy.size) i
      omega
    refine for_list (K:=K) (a:=l) (xs:=us) (fun i σ H5=>(∃ z,σ = [some (.ref a),some (.int (n:Int)),some (.ref d),some (.ref di2),some (.ref la),some (.ref ra),z])∧(∀ b o,H4 b = some o→b≠la→b≠ra→H5 b = some o)∧H5 la = some (.lst (natsV (Ha.leadsL (s.subs.take i) (n+1))))∧∃ rs,H5 ra = some (.lst rs)∧Paired (PartAt true H5) (Ha.rowsL (s.subs.take i) (n+1) (Ha.into s n e)) rs)
      ⟨⟨_,rfl⟩,fun b o eb _ _=>eb,hla4,[],hra4,.nil⟩ (fun i σ H5 _ ⟨_,k5,_⟩=>SqL.of (k5 _ _ hl hl3a hl3r)) ?_ ?_
    · rintro i x σ H5 hx ⟨⟨z,rfl⟩,k5,la5,rs,ra5,pr5⟩
      obtain ⟨u,hu',hxu⟩:=pair_backG pr4 hx
      obtain ⟨hi,eu⟩:=List.getElem?_eq_some_iff.mp hu'
      have mem:u∈s.subs:=List.mem_of_getElem? hu'
      have du:=Sy.depth_subs mem
      have zu:u.size≤s.size:=by
        obtain ⟨j,hj,ej⟩:=List.mem_iff_getElem.mp mem
        have:=mem_le_sum (ns:=s.subs.map Sy.size) (i:=j) (by simpa using hj)
        have:u.size≤(s.subs.map Sy.size).sum:=by simpa [ej] using this
        omega
      have tup5:∀ b xs,H4 b = some (.tup xs)→H5 b = some (.tup xs):=fun b xs eb=>k5 _ _ eb (fun z=>by rw [z,hla4] at eb; cases eb) (fun z=>by rw [z,hra4] at eb; cases eb)
      have lrs:rs.length = ((s.subs.take i).map Sy.size).sum:=by rw [← Paired.length pr5,Ha.rowsL_len]
      have sti:=szt i
      refine (xr0 rfl ⟨.inl ⟨rfl,_,SqL.of la5⟩,xr0 rfl (xr2 rfl rfl (xr0 rfl (xn2 ra _ ⟨rfl,.inl (SqL.of ra5),xr2 rfl rfl (xn3 la _ _ ⟨rfl,rfl,la5,small1000 (by rw [natsV_len,Ha.leadsL_len,List.length_take]; omega),?_⟩)⟩)))⟩)
      have en:(n:Int)+1+(rs.length:Int) = ((n+1+((s.subs.take i).map Sy.size).sum:Nat):Int):=by rw [lrs]; omega
      have tk:s.subs.take (i+1) = s.subs.take i++[u]:=by rw [List.take_succ_eq_append_getElem hi,eu]
      have e6:natsV (Ha.leadsL (s.subs.take i) (n+1))++[V.int ((n:Int)+1+(rs.length:Int))] = natsV (Ha.leadsL (s.subs.take (i+1)) (n+1)):=by
        rw [en,tk,Ha.leadsL_snoc,natsV_snoc]
      have e6':upd H5 la (.lst (natsV (Ha.leadsL (s.subs.take i) (n+1))++[V.int ((n:Int)+1+(rs.length:Int))])) = upd H5 la (.lst (natsV (Ha.leadsL (s.subs.take (i+1)) (n+1)))):=by rw [e6]
      have la6:(upd H5 la (.lst (natsV (Ha.leadsL (s.subs.take i) (n+1))++[V.int ((n:Int)+1+(rs.length:Int))]))) la = some (.lst (natsV (Ha.leadsL (s.subs.take (i+1)) (n+1)))):=by rw [e6']; exact upd_same
      have x6:∀ b o,H5 b = some o→b≠la→(upd H5 la (.lst (natsV (Ha.leadsL (s.subs.take i) (n+1))++[V.int ((n:Int)+1+(rs.length:Int))]))) b = some o:=fun b o eb hb=>by rw [upd_ne hb]; exact eb
      generalize upd H5 la (.lst (natsV (Ha.leadsL (s.subs.take i) (n+1))++[V.int ((n:Int)+1+(rs.length:Int))])) = H6 at la6 x6
      have ra6:=x6 _ _ ra5 nela.symm
      have tup6:∀ b xs,H5 b = some (.tup xs)→H6 b = some (.tup xs):=fun b xs eb=>x6 _ _ eb (fun z=>by rw [z,la5] at eb; cases eb)
      have hu6:SyAt H6 u x:=(hxu.imp tup5).imp tup6
      have num6:NumAt H6 di2 B' (Ha.into s n e):=by
        obtain ⟨kv,h1,h2,h3⟩:=hnum
        have h4:=s4 _ _ (k3 _ _ h1)
        have n1:di2≠la:=fun z=>by rw [z,hla4] at h4; cases h4
        have n2:di2≠ra:=fun z=>by rw [z,hra4] at h4; cases h4
        exact ⟨kv,x6 _ _ (k5 _ _ h4 n1 n2) n1,h2,h3⟩
      refine (xr0 rfl ⟨.inl ⟨rfl,_,SqL.of ra6⟩,xr0 rfl (xr0 rfl (xr0 rfl (xn4 la _ _ _ ⟨rfl,rfl,SqL.of la6,by rw [tk,Ha.leadsL_snoc]; exact atLast,xr0 rfl (xn6 _ u _ di2 B' (Ha.into s n e) ⟨rfl,hu6,num6,hokS u mem,by omega,by omega,by omega,fun l7 H7 vs7 s7 hl7 h7 p7=>?_⟩)⟩)))⟩)
      have ra7:=s7 _ _ ra6
      have l7n:l7≠ra:=fun z=>by rw [z,ra6] at hl7; cases hl7
      have lv7:vs7.length = u.size:=by rw [← Paired.length p7,Ha.rows_len]
      refine (xn4 ra l7 _ _ ⟨rfl,rfl,ra7,h7,Nat.le_of_lt (small1000 (by omega)),⟨_,rfl⟩,fun b o eb h1 h2=>?_,?_,rs++vs7,upd_same,?_⟩)
      · rw [upd_ne h2]
        exact s7 _ _ (x6 _ _ (k5 _ _ eb h1 h2) h1)
      · rw [upd_ne nela]
        exact s7 _ _ la6
      · have tup8:∀ b xs,H7 b = some (.tup xs)→(upd H7 ra (.lst (rs++vs7))) b = some (.tup xs):=fun b xs eb=>by rw [upd_ne (fun z=>by rw [z,ra7] at eb; cases eb)]; exact eb
        rw [tk,Ha.rowsL_snoc]
        exact pair_append (L2.Paired.mapP pr5 fun _ _ z=>((z.imp tup6).imp fun b xs eb=>s7 _ _ eb).imp tup8) (L2.Paired.mapP p7 fun _ _ z=>z.imp tup8)
    · rintro σ H5 ⟨⟨z,rfl⟩,k5,la5,rs,ra5,pr5⟩
      rw [← lx,List.take_length] at la5 pr5
      have tup5:∀ b xs,H4 b = some (.tup xs)→H5 b = some (.tup xs):=fun b xs eb=>k5 _ _ eb (fun z=>by rw [z,hla4] at eb; cases eb) (fun z=>by rw [z,hra4] at eb; cases eb)
      have sH5:Same H H5:=fun b o eb=>k5 _ _ (s4 _ _ (s3 _ _ eb)) (fun z=>by rw [z] at eb; rw [s2 _ _ eb] at hla; cases hla) (fun z=>by rw [z] at eb; rw [s2 _ _ eb] at hraH; cases hraH)
      have hs5:SyAt H5 s (.ref a):=hs.same sH5
      have lrs:rs.length = (s.subs.map Sy.size).sum:=by rw [← Paired.length pr5,Ha.rowsL_len]
      refine (xr0 rfl (xr0 rfl (xn2 la _ ⟨rfl,.inl ⟨SqL.of la5,fun t1 h1=>⟨(by show 2≤sizeLine; decide),fun t2 h2=>⟨(by show 1≤sizeLine; decide),fun l8 h8=>?_⟩⟩⟩⟩)))
      have q1:=same_new h1 (.tup (natsV (Ha.leadsL s.subs (n+1))))
      have q2:=same_new h2 (.tup [V.ref a,V.ref t1])
      have q3:=same_new h8 (.lst [V.ref t2])
      refine (xr0 rfl (xn4 l8 ra _ _ ⟨rfl,rfl,upd_same,(q1.trans (q2.trans q3)) _ _ ra5,Nat.le_of_lt (small1000 (by simp; omega)),fun l9 h9=>?_⟩))
      have q4:=same_new h9 (.lst ([V.ref t2]++rs))
      have qq:=q1.trans (q2.trans (q3.trans q4))
      refine q l9 _ _ (sH5.trans qq) ((sH5.trans (q1.trans (q2.trans q3))).free h9) upd_same ?_
      rw [Ha.rows_eq hnm]
      refine .cons (xn3 t2 t1 _ ⟨rfl,q4 _ _ (q3 _ _ upd_same),hs5.same qq,q4 _ _ (q3 _ _ (q2 _ _ upd_same))⟩) (L2.Paired.mapP pr5 fun _ _ z=>z.same qq)
end
end Law

namespace L2
open PySem
namespace Ha
theorem rows_depth:∀ {s:Sy} {n:Nat} {e:NE},∀ p∈rows s n e,p.1.depth≤s.depth
  | .y0 _,_,_,p,hp=>by rw [List.mem_singleton.mp (show p∈[_] from hp)]; exact Nat.le_refl _
  | .mk _ _,_,_,p,hp=>by rw [List.mem_singleton.mp (show p∈[_] from hp)]; exact Nat.le_refl _
  | .nm _,_,_,p,hp=>by rw [List.mem_singleton.mp (show p∈[_] from hp)]; exact Nat.le_refl _
  | .st b s,n,e,p,hp=>by
    rcases List.mem_cons.mp (show p∈_::_ from hp) with rfl | h
    · exact Nat.le_refl _
    · have:=rows_depth (s:=s) p h
      simp [Sy.depth]; exact Nat.le_succ_of_le ‹_›
  | .pr b s t,n,e,p,hp=>by
    rcases List.mem_cons.mp (show p∈_::_ from hp) with rfl | h
    · exact Nat.le_refl _
    · rcases List.mem_append.mp h with h | h
      · have:=rows_depth (s:=s) p h
        simp [Sy.depth]; omega
      · have:=rows_depth (s:=t) p h
        simp [Sy.depth]; omega
  | .bn b x s,n,e,p,hp=>by
    rcases List.mem_cons.mp (show p∈_::_ from hp) with rfl | h
    · exact Nat.le_refl _
    · have:=rows_depth (s:=s) p h
      simp [Sy.depth]; exact Nat.le_succ_of_le ‹_›
section
variable {N:Nat}
theorem rooms_take {W:Wo N} {i:Fin N} {ps:List (Sy×List Nat)} {M j:Nat} {p:Sy×List Nat} (h:ps[j]? = some p):(rooms W i ps M).take (j+1) = (rooms W i ps M).take j++[room W i p M (i.val*M+j)]:=by
  obtain ⟨hj,ej⟩:=List.getElem?_eq_some_iff.mp h
  have hl:j < (rooms W i ps M).length:=by simpa [rooms] using hj
  rw [List.take_succ_eq_append_getElem hl]
  congr 2
  simp [rooms,List.getD,List.getElem?_eq_getElem hj,ej]
theorem hall_take {W:Wo N} {ps:List (Sy×List Nat)} {M:Nat} (i:Fin N):hallTo W ps M (i.val+1) = hallTo W ps M i.val++(rooms W i ps M).take ps.length:=by
  rw [hallTo,dif_pos i.isLt,List.take_of_length_le (by simp [rooms])]
end
def e0:NE:=fun _=>0
end Ha
end L2
namespace Law
open PySem L2
section
seal PA PE PS PSs PT PI PG PGs PIf
variable {P:Program} {w:World} {K:PySem.W.Frag} {mg:Str→Option Value} {base:Heap} {f g:Addr} {fd gd:FuncData}
def spHallOf (D:Nat):Sp:=fun vs H Q _=>∃ (N:Nat) (l:Addr) (W:Wo N) (us:List V) (v:V) (s:Sy),vs = [.ref l,v]∧WorldAt H l W us∧SyAt H s v∧s.ok []∧s.depth≤D∧s.size≤100∧N≤100∧N*s.size≤900∧W.rises ∧
  ∀ h H',Same H H'→H h = none→HallAt H' h (Ha.hallTo W (Ha.rows s 0 Ha.e0) s.size N)→Q (.ref h) H'
theorem scHallOf:FnScope ["world","saying","parts","hall","place","part","leads","ways"] ["world","saying"] (defScope sHallOf):=⟨rfl,rfl,rfl,by decide +kernel,rfl,by decide +kernel,by decide +kernel⟩
theorem ok_hallof (F:Fun K "hall_of" "hall_of" sHallOf f fd) {D:Nat} (hD:D≤800) {fN fY fE fA fR:Addr} {dN dY dE dA dR:FuncData}
    (GN:FnOk P w K mg base CX0 (2+D) fN dN ["saying","number","binders"] (spNumbered D)) (bN:Binds K dN ["saying","number","binders"] []) (kN:PySem.W.keepIn K (.ref fN) = true) (mN:mg "numbered" = some (.ref fN))
    (GY:FnOk P w K mg base CX0 1 fY dY ["world","place","part","leads","size"] spWaysFrom) (bY:Binds K dY ["world","place","part","leads","size"] []) (kY:PySem.W.keepIn K (.ref fY) = true) (mY:mg "ways_from" = some (.ref fY))
    (GE:FnOk P w K mg base CX0 2 fE dE ["part","marks"] spEnd) (bE:Binds K dE ["part","marks"] []) (kE:PySem.W.keepIn K (.ref fE) = true) (mE:mg "holds_at_the_end" = some (.ref fE))
    (GA:FnOk P w K mg base CX0 1 fA dA ["part"] spHandOf) (bA:Binds K dA ["part"] []) (kA:PySem.W.keepIn K (.ref fA) = true) (mA:mg "hand_of" = some (.ref fA))
    (GR:FnOk P w K mg base CX0 (2+D+1) fR dR ["part"] (spRankOf D)) (bR:Binds K dR ["part"] []) (kR:PySem.W.keepIn K (.ref fR) = true) (mR:mg "rank_of" = some (.ref fR))
    (ml:mg "len" = none) (mr:mg "range" = none):FnOk P w K mg base CX0 (2+D+2) f fd ["world","saying"] (spHallOf D):=by
  refine F.ok scHallOf (fun vs H Q E h=>?_) (fun cdv A outer s H vs Q E hr h=>?_)
  · obtain ⟨N,l,W,us,v,s,rfl,_⟩:=h
    rfl
  obtain ⟨N,l,W,us,v,s,rfl,hW,hs,hok,hd,hz,hN,hNz,hri,q⟩:=h
  have hr1:L2.Room 1 _:=hr.mono (by show 1≤2+D+1; exact Nat.succ_pos _)
  have hr2:L2.Room 2 _:=hr.mono (by show 2≤2+D+1; omega)
  have hrN:L2.Room (2+D) _:=hr.mono (by show 2+D≤2+D+1; exact Nat.le_succ _)
  refine ⟨_,pss_cons (ps_set (i:=2) scHallOf.nd rfl (Or.inl rfl) (pe_call GN hrN rfl mN kN bN .nil pass0 (pa_cons (pv 1) (pa_cons pe_int (pa_cons pe_dnewK pa_nil))))) (pss_cons (ps_set (i:=3) scHallOf.nd rfl (Or.inl rfl) (pe_lst pa_nil)) (pss_cons (ps_for PassesOwn.never rfl (pi_range1 rfl mr (pa_cons (pe_callB call_len_seq rfl ml PySem.boot_len (pa_cons (pv 0) pa_nil)) pa_nil)) (pg_name (i:=4) scHallOf.nd rfl (Or.inl rfl)) (pss_one (ps_for PassesOwn.never rfl (pi_list (pv 2)) (pg_tup rfl (pgs_cons (pg_name (i:=5) scHallOf.nd rfl (Or.inl rfl)) (pgs_cons (pg_name (i:=6) scHallOf.nd rfl (Or.inl rfl)) pgs_nil))) (pss_cons (ps_set (i:=7) scHallOf.nd rfl (Or.inl rfl) (pe_call GY hr1 rfl mY kY bY .nil pass0 (pa_cons (pv 0) (pa_cons (pv 4) (pa_cons (pv 5) (pa_cons (pv 6) (pa_cons (pe_callB call_len_seq rfl ml PySem.boot_len (pa_cons (pv 2) pa_nil)) pa_nil))))))) (pss_one (ps_if (pt_cmpR op_eq (pe_callB call_len_seq rfl ml PySem.boot_len (pa_cons (pv 7) pa_nil)) pe_int (nomark _)) (pss_one (ps_expr (pe_bm PySem.F.plainAttrs_list PySem.F.slot_list_append PySem.F.type_list_append mt_append (pv 3) (pa_cons (pe_tup (pa_cons pe_int (pa_cons (pe_ifExp (pt_val (pe_call GE hr2 rfl mE kE bE .nil pass0 (pa_cons (pv 5) (pa_cons (pe_ix ix_tup (pe_ix ix_list (pv 0) (pv 4) (fun _ _=>rfl)) pe_int (fun _ _=>rfl)) pa_nil)))) pe_int pe_int) (pa_cons (pe_tup (pa_cons (pe_callB call_len_seq rfl ml PySem.boot_len (pa_cons (pv 3) pa_nil)) pa_nil)) pa_nil)))) pa_nil)))) (pss_one (ps_expr (pe_bm PySem.F.plainAttrs_list PySem.F.slot_list_append PySem.F.type_list_append mt_append (pv 3) (pa_cons (pe_tup (pa_cons (pe_call GA hr1 rfl mA kA bA .nil pass0 (pa_cons (pv 5) pa_nil)) (pa_cons (pe_call GR hr rfl mR kR bR .nil pass0 (pa_cons (pv 5) pa_nil)) (pa_cons (pv 7) pa_nil)))) pa_nil)))))))))) (pss_one (ps_ret (pv 3))))),?_⟩
  first | dsimp only [nxK,nxP,nxW] | skip
  refine (xr0 rfl (fun d0 hd0=>(xn6 _ s 0 d0 [] Ha.e0 ⟨rfl,hs.same (same_new hd0 _),⟨[],upd_same,Nat.le_refl _,fun x hx=>by (cases hx)⟩,hok,hd,by omega,by simp; omega,fun pl H1 ps1 s1 hpl hp1 prs=>⟨(by decide),fun hh hhh=>?_⟩⟩)))
  have t1:=(same_new hd0 (.dK [])).trans s1
  have M0:(Ha.rows s 0 Ha.e0).length = s.size:=Ha.rows_len _ _ _
  have led:=Ha.rows_led (M:=s.size) (n:=0) (e:=Ha.e0) hok (fun x hx=>by cases hx) (by omega)
  have dep:=Ha.rows_depth (s:=s) (n:=0) (e:=Ha.e0)
  generalize hps:Ha.rows s 0 Ha.e0 = ps at prs M0 led dep q
  have lps:ps1.length = s.size:=by rw [← Paired.length prs,M0]
  have k2:=same_new hhh (.lst [])
  have t2:=t1.trans k2
  have hh2:(upd H1 hh (.lst [])) hh = some (.lst []):=upd_same
  generalize upd H1 hh (.lst []) = H2 at k2 t2 hh2
  have hW2:=hW.same t2
  have pl2:=k2 _ _ hp1
  have nepl:pl≠hh:=ne_of_none hp1 hhh
  have nel:l≠hh:=ne_of_none (hW.same t1).lst hhh
  have wl:us.length = N:=hW.len
  refine (xr0 rfl (xn2 l _ ⟨rfl,.inl (SqL.of hW2.lst),us.length,rfl,by omega,by omega,?_⟩))
  have tupX:∀ {H3:Hp},SameX hh H2 H3→∀ b xs,H2 b = some (.tup xs)→H3 b = some (.tup xs):=fun {H3} x b xs eb=>x _ _ eb fun z=>by rw [z,hh2] at eb; cases eb
  refine for_range (lo:=0) (n:=Int.toNat (us.length:Int)) (fun i σ H3=>(∃ z4 z5 z6 z7,σ = [some (.ref l),some v,some (.ref pl),some (.ref hh),z4,z5,z6,z7])∧SameX hh H2 H3∧∃ vs,H3 hh = some (.lst vs)∧Paired (RoomAt H3) (Ha.hallTo W ps s.size i) vs)
    ⟨⟨_,_,_,_,rfl⟩,fun b o eb _=>eb,[],hh2,.nil⟩ ?_ ?_
  · rintro i σ H3 hi ⟨⟨z4,z5,z6,z7,rfl⟩,x3,vs0,h3,pr3⟩
    have hiN:i < N:=by omega
    have pl3:=x3 _ _ pl2 nepl
    refine (xr0 rfl ⟨pl,rfl,⟨_,SqL.of pl3⟩,?_⟩)
    refine for_list (K:=K) (a:=pl) (xs:=ps1) (fun j σ H4=>(∃ z5 z6 z7,σ = [some (.ref l),some v,some (.ref pl),some (.ref hh),some (.int (0+(i:Int))),z5,z6,z7])∧SameX hh H2 H4∧∃ vs,H4 hh = some (.lst vs)∧Paired (RoomAt H4) (Ha.hallTo W ps s.size i++(Ha.rooms W ⟨i,hiN⟩ ps s.size).take j) vs)
      ⟨⟨_,_,_,rfl⟩,x3,vs0,h3,by simpa using pr3⟩ (fun j σ H4 _ ⟨_,x4,_⟩=>SqL.of (x4 _ _ pl2 nepl)) ?_ ?_
    · rintro j x σ H4 hx ⟨⟨z5,z6,z7,rfl⟩,x4,vs,h4,pr4⟩
      obtain ⟨p,hp,pa,qa,sv,rfl,hpa,hsv,hqa⟩:=pair_backG prs hx
      have hjM:j < s.size:=by rw [← M0]; exact (List.getElem?_eq_some_iff.mp hp).1
      have mem:p∈ps:=List.mem_of_getElem? hp
      obtain ⟨l1,l2,l3,l4,l5⟩:=led p mem
      have dp:=dep p mem
      have tup4:=fun b xs (eb:H1 b = some (.tup xs))=>tupX x4 b xs (k2 _ _ eb)
      have hpa4:=tup4 _ _ hpa
      have hsv4:SyAt H4 p.1 sv:=hsv.imp tup4
      have hqa4:H4 qa = some (.tup (natsV p.2)):=tup4 _ _ hqa
      have hW4:WorldAt H4 l W us:=hW2.imp (x4 _ _ hW2.lst nel) (tupX x4)
      have lvs:vs.length = i*s.size+j:=by
        have:=Paired.length pr4
        rw [← this,List.length_append,List.length_take,← M0,Ha.hall_len (by exact Nat.le_of_lt ‹_›)]
        simp [Ha.rooms]
        omega
      have lb:i*s.size+j < N*s.size:=Ha.mul_lt hiN hjM
      have fin:∀ (H5:Hp) (v':V),Same H4 H5→RoomAt H5 (Ha.room W ⟨i,hiN⟩ p s.size (i*s.size+j)) v'→∀ z7',(∃ z5 z6 z7,[some (.ref l),some v,some (.ref pl),some (.ref hh),some (.int (0+(i:Int))),some sv,some (.ref qa),z7'] = [some (.ref l),some v,some (.ref pl),some (.ref hh),some (.int (0+(i:Int))),z5,z6,z7])∧SameX hh H2 (upd H5 hh (.lst (vs++[v'])))∧∃ ws,(upd H5 hh (.lst (vs++[v']))) hh = some (.lst ws)∧Paired (RoomAt (upd H5 hh (.lst (vs++[v'])))) (Ha.hallTo W ps s.size i++(Ha.rooms W ⟨i,hiN⟩ ps s.size).take (j+1)) ws:=fun H5 v' s5 hv z7'=>by
        have h5:=s5 _ _ h4
        have k6:∀ b xs,H5 b = some (.tup xs)→(upd H5 hh (.lst (vs++[v']))) b = some (.tup xs):=fun b xs eb=>by rw [upd_ne (fun z=>by rw [z,h5] at eb; cases eb)]; exact eb
        refine ⟨⟨_,_,_,rfl⟩,fun b o eb hb=>?_,_,upd_same,?_⟩
        · rw [upd_ne hb]
          exact s5 _ _ (x4 _ _ eb hb)
        · rw [Ha.rooms_take hp,← List.append_assoc]
          exact pair_snoc (hv.tups k6) (rooms_tups pr4 fun b xs eb=>k6 _ _ (s5 _ _ eb))
      refine (xn2 pa _ ⟨rfl,SqT.of hpa4,rfl,_,_,rfl,_,_,rfl,rfl,?_⟩)
      refine (xr0 rfl (xr0 rfl (xr0 rfl (xr0 rfl (xr0 rfl (xn2 pl _ ⟨rfl,.inl (SqL.of (x4 _ _ pl2 nepl)),N,l,W,us,⟨i,hiN⟩,sv,p.1,qa,p.2,s.size,?_,hW4,hsv4,hqa4,l4,l3,by omega,hri,fun t H5 s5 ht=>?_⟩))))))
      · rw [lps,show (0:Int)+(i:Int) = (i:Int) by exact Int.zero_add _]
        rfl
      have h5:=s5 _ _ h4
      generalize hws:Ha.ways W ⟨i,hiN⟩ (p.1,p.2) s.size = wy at ht
      refine (xr0 rfl (xn2 t _ ⟨rfl,.inr (SqT.of ht),rfl,xr0 rfl (ifeq2 (fun z=>?_) (fun z=>?_))⟩))
      · have wy0:wy = []:=by
          rw [natsV_len] at z
          exact List.eq_nil_of_length_eq_zero (by omega)
        have er:Ha.room W ⟨i,hiN⟩ p s.size (i*s.size+j) = (0,if Ha.endH p.1 (W.ma ⟨i,hiN⟩) = true then 0 else 1,[((i*s.size+j:Nat):Int)]):=by
          unfold Ha.room
          rw [show Ha.ways W ⟨i,hiN⟩ p s.size = [] from hws.trans wy0,if_pos rfl]
        rw [er] at fin
        have hW5:=hW4.same s5
        obtain ⟨pv',ev,pa',wa',rfl,hpa',hwa'⟩:=hW5.at' ⟨i,hiN⟩
        refine (xr0 rfl ⟨.inl ⟨rfl,_,SqL.of h5⟩,_,rfl,_,rfl,_,rfl,l,_,_,_,rfl,rfl,SqL.of hW5.lst,(by rw [show (0:Int)+(i:Int) = (i:Int) by exact Int.zero_add _]; exact atI_nat ev),pa',_,_,_,rfl,rfl,SqT.of hpa',at0,_,p.1,_,rfl,hsv4.same s5,_,rfl,?_⟩)
        have tail:∀ c:Int,c = (if Ha.endH p.1 (W.ma ⟨i,hiN⟩) = true then 0 else 1)→∀ t1,H5 t1 = none→∀ t2,(upd H5 t1 (.tup [V.int (vs.length:Int)])) t2 = none→RoomAt (upd (upd H5 t1 (.tup [V.int (vs.length:Int)])) t2 (.tup [V.int 0,V.int c,V.ref t1])) (0,if Ha.endH p.1 (W.ma ⟨i,hiN⟩) = true then 0 else 1,[((i*s.size+j:Nat):Int)]) (.ref t2):=fun c hc t1 h1 t2 h2=>by
          refine ⟨t2,t1,rfl,by rw [upd_same,hc],?_⟩
          rw [upd_ne (ne_of_none upd_same h2),upd_same,lvs]
          rfl
        refine ite2 (fun c=>?_) (fun c=>?_)
        · refine (xr0 rfl (xn2 hh _ ⟨rfl,.inl (SqL.of h5),(by show 1≤sizeLine; decide),fun t1 h1=>⟨(by show 3≤sizeLine; decide),fun t2 h2=>?_⟩⟩))
          have s8:=s5.trans ((same_new h1 (.tup [V.int (vs.length:Int)])).trans (same_new h2 (.tup [V.int 0,V.int 0,V.ref t1])))
          exact (xn3 hh vs _ ⟨rfl,rfl,s8 _ _ h4,small1000 (by omega),fin _ _ s8 (tail 0 (by rw [if_pos c]) t1 h1 t2 h2) _⟩)
        · refine (xr0 rfl (xn2 hh _ ⟨rfl,.inl (SqL.of h5),(by show 1≤sizeLine; decide),fun t1 h1=>⟨(by show 3≤sizeLine; decide),fun t2 h2=>?_⟩⟩))
          have s8:=s5.trans ((same_new h1 (.tup [V.int (vs.length:Int)])).trans (same_new h2 (.tup [V.int 0,V.int 1,V.ref t1])))
          exact (xn3 hh vs _ ⟨rfl,rfl,s8 _ _ h4,small1000 (by omega),fin _ _ s8 (tail 1 (by rw [if_neg c]) t1 h1 t2 h2) _⟩)
      · have wy0:wy≠[]:=fun e=>z (by rw [e]; rfl)
        have er:Ha.room W ⟨i,hiN⟩ p s.size (i*s.size+j) = ((Ha.hand p.1:Int),(Ha.rk p.1:Int),wy.map fun (w:Nat)=>(w:Int)):=by
          unfold Ha.room
          rw [show Ha.ways W ⟨i,hiN⟩ p s.size = wy from hws,if_neg wy0]
        rw [er] at fin
        refine (xr0 rfl ⟨.inl ⟨rfl,_,SqL.of h5⟩,xr0 rfl (xn2 _ p.1 ⟨rfl,hsv4.same s5,fun H6 s6=>(xr0 rfl (xn2 _ p.1 ⟨rfl,hsv4.same (s5.trans s6),by omega,fun H7 s7=>(xr0 rfl ⟨(by show 3≤sizeLine; decide),fun u hu=>?_⟩)⟩))⟩)⟩)
        have s8:=s5.trans (s6.trans (s7.trans (same_new hu (.tup [V.int (Ha.hand p.1:Int),V.int (Ha.rk p.1:Int),V.ref t]))))
        refine (xn3 hh vs _ ⟨rfl,rfl,s8 _ _ h4,small1000 (by omega),fin _ _ s8 (xn2 u t ⟨rfl,upd_same,?_⟩) _⟩)
        have:=(s6.trans (s7.trans (same_new hu (.tup [V.int (Ha.hand p.1:Int),V.int (Ha.rk p.1:Int),V.ref t])))) _ _ ht
        rw [this]
        simp [natsV]
    · rintro σ H4 ⟨⟨z5,z6,z7,rfl⟩,x4,vs,h4,pr4⟩
      refine ⟨⟨_,_,_,_,rfl⟩,x4,vs,h4,?_⟩
      have eh:=Ha.hall_take (W:=W) (ps:=ps) (M:=s.size) ⟨i,hiN⟩
      rw [M0] at eh
      rw [lps] at pr4
      show Paired (RoomAt H4) (Ha.hallTo W ps s.size ((⟨i,hiN⟩:Fin N).val+1)) vs
      rw [eh]
      exact pr4
  · rintro σ H3 ⟨⟨z4,z5,z6,z7,rfl⟩,x3,vs,h3,pr3⟩
    refine (xr0 rfl (q hh H3 (fun b o eb=>x3 _ _ (t2 _ _ eb) fun z=>?_) (t1.free hhh) ⟨vs,h3,?_⟩))
    · rw [z] at eb
      rw [t1 _ _ eb] at hhh
      cases hhh
    · have:Int.toNat (us.length:Int) = N:=by assumption
      rw [this] at pr3
      exact pr3
end
end Law

namespace Bf
structure Mid (W:Int→List Int) (own:Int→Bool) (R G:List Int) (Pr:Int→Int→Bool) (q:List Int) (st:Int→Nat) (wt:Int→Int):Prop where
  nd:q.Nodup
  sub:∀ e∈q,e∈R
  g0:∀ g∈G,g∈q∧st g = 0
  g1:∀ e∈q,st e = 0→e∈G
  prq:∀ e∈R,∀ w∈W e,Pr e w = true→w∈q
  wtc:∀ e∈R,wt e = ((W e).countP (fun w=>!Pr e w):Nat)
  memO:∀ e∈R,e∉G→own e = true→(e∈q↔∃ w∈W e,Pr e w = true)
  memX:∀ e∈R,e∉G→own e = false→(e∈q↔W e≠[]∧∀ w∈W e,Pr e w = true)
  stO:∀ e∈q,e∉G→own e = true→(∃ w∈W e,Pr e w = true∧st e = st w+1)∧∀ w∈W e,Pr e w = true→st e≤st w+1
  stX:∀ e∈q,e∉G→own e = false→(∃ w∈W e,st e = st w+1)∧∀ w∈W e,st w+1≤st e
  ord:q.Pairwise fun a b=>st a≤st b
theorem Mid.congr {W:Int→List Int} {own:Int→Bool} {R G:List Int} {Pr Pr':Int→Int→Bool} {q:List Int} {st:Int→Nat} {wt:Int→Int} (h:Mid W own R G Pr q st wt) (e:∀ x∈R,∀ w∈W x,Pr x w = Pr' x w):Mid W own R G Pr' q st wt where
  nd:=h.nd
  sub:=h.sub
  g0:=h.g0
  g1:=h.g1
  prq:=fun x hx w hw p=>h.prq x hx w hw (by rw [e x hx w hw]; exact p)
  wtc:=fun x hx=>by
    rw [h.wtc x hx]
    congr 1
    exact List.countP_congr fun w hw=>by rw [e x hx w hw]
  memO:=fun x hx hg ho=>by
    rw [h.memO x hx hg ho]
    constructor
    · rintro ⟨w,hw,p⟩
      exact ⟨w,hw,by rw [← e x hx w hw]; exact p⟩
    · rintro ⟨w,hw,p⟩
      exact ⟨w,hw,by rw [e x hx w hw]; exact p⟩
  memX:=fun x hx hg ho=>by
    rw [h.memX x hx hg ho]
    constructor
    · rintro ⟨a,b⟩
      exact ⟨a,fun w hw=>by rw [← e x hx w hw]; exact b w hw⟩
    · rintro ⟨a,b⟩
      exact ⟨a,fun w hw=>by rw [e x hx w hw]; exact b w hw⟩
  stO:=fun x hx hg ho=>by
    obtain ⟨⟨w,hw,p,z⟩,b⟩:=h.stO x hx hg ho
    exact ⟨⟨w,hw,by rw [← e x (h.sub x hx) w hw]; exact p,z⟩,fun w hw p=>b w hw (by rw [e x (h.sub x hx) w hw]; exact p)⟩
  stX:=h.stX
  ord:=h.ord
def more (Pr:Int→Int→Bool) (e r:Int):Int→Int→Bool:=fun x w=>Pr x w || (decide (x = e) && decide (w = r))
theorem more_ne {Pr:Int→Int→Bool} {e r x w:Int} (h:x≠e):more Pr e r x w = Pr x w:=by simp [more,h]
theorem more_self {Pr:Int→Int→Bool} {e r w:Int}:more Pr e r e w = (Pr e w || decide (w = r)):=by simp [more]
theorem count_more {p:Int→Bool} {r:Int}:∀ {l:List Int},l.Nodup→r∈l→p r = false→l.countP (fun w=>!p w) = l.countP (fun w=>!(p w || decide (w = r)))+1
  | [],_,h,_=>by simp at h
  | a::l,nd,h,hp=>by
    obtain ⟨n1,n2⟩:=List.nodup_cons.mp nd
    rw [List.countP_cons,List.countP_cons]
    rcases List.mem_cons.mp h with e | h'
    · subst e
      have:l.countP (fun w=>!p w) = l.countP (fun w=>!(p w || decide (w = r))):=List.countP_congr fun w hw=>by
        have:w≠r:=fun z=>n1 (z▸hw)
        simp [this]
      rw [this]
      simp [hp]
    · have ne:a≠r:=fun z=>n1 (z▸h')
      rw [count_more n2 h' hp]
      simp [ne]
      omega
section
variable {W:Int→List Int} {own:Int→Bool} {R G:List Int} {Pr:Int→Int→Bool} {q:List Int} {st:Int→Nat} {wt:Int→Int} {r e:Int}
theorem wt_more (h:Mid W own R G Pr q st wt) (hW:∀ x∈R,(W x).Nodup) (he:e∈R) (hr:r∈W e) (hp:Pr e r = false):∀ x∈R,(if x = e then wt e - 1 else wt x) = ((W x).countP (fun w=>!more Pr e r x w):Nat):=fun x hx=>by
  by_cases z:x = e
  · subst z
    rw [if_pos rfl,h.wtc x hx,count_more (hW x hx) hr hp]
    simp only [more_self]
    omega
  · rw [if_neg z,h.wtc x hx]
    congr 1
    exact List.countP_congr fun w _=>by rw [more_ne z]
theorem Mid.stay (h:Mid W own R G Pr q st wt) (hW:∀ x∈R,(W x).Nodup) (he:e∈R) (hr:r∈W e) (hp:Pr e r = false) (hrq:r∈q) (hle:∀ x∈q,st x≤st r+1) (hc:e∈q∨(own e = false∧wt e - 1≠0)) :
    Mid W own R G (more Pr e r) q st (fun x=>if x = e then wt e - 1 else wt x) where
  nd:=h.nd
  sub:=h.sub
  g0:=h.g0
  g1:=h.g1
  prq:=fun x hx w hw p=>by
    by_cases z:x = e
    · subst z
      rw [more_self,Bool.or_eq_true,decide_eq_true_eq] at p
      rcases p with p | p
      · exact h.prq x hx w hw p
      · rw [p]; exact hrq
    · rw [more_ne z] at p
      exact h.prq x hx w hw p
  wtc:=wt_more h hW he hr hp
  memO:=fun x hx hg ho=>by
    by_cases z:x = e
    · subst z
      have hq:x∈q:=by
        rcases hc with hc | hc
        · exact hc
        · rw [hc.1] at ho; cases ho
      exact ⟨fun _=>⟨r,hr,by rw [more_self]; simp⟩,fun _=>hq⟩
    · rw [h.memO x hx hg ho]
      simp only [more_ne z]
  memX:=fun x hx hg ho=>by
    by_cases z:x = e
    · subst z
      constructor
      · intro hq
        have:=((h.memX x hx hg ho).mp hq).2 r hr
        rw [hp] at this
        cases this
      · rintro ⟨_,al⟩
        rcases hc with hc | hc
        · exact hc
        · exfalso
          have:=wt_more h hW he hr hp x hx
          rw [if_pos rfl] at this
          have z0:(W x).countP (fun w=>!more Pr x r x w) = 0:=List.countP_eq_zero.mpr fun w hw=>by rw [al w hw]; decide
          rw [z0] at this
          exact hc.2 this
    · rw [h.memX x hx hg ho]
      simp only [more_ne z]
  stO:=fun x hx hg ho=>by
    obtain ⟨⟨w,hw,p,z1⟩,b⟩:=h.stO x hx hg ho
    refine ⟨⟨w,hw,by simp [more,p],z1⟩,fun w' hw' p'=>?_⟩
    by_cases z:x = e
    · subst z
      rw [more_self,Bool.or_eq_true,decide_eq_true_eq] at p'
      rcases p' with p' | p'
      · exact b w' hw' p'
      · rw [p']; exact hle x hx
    · rw [more_ne z] at p'
      exact b w' hw' p'
  stX:=h.stX
  ord:=h.ord
theorem Mid.push (h:Mid W own R G Pr q st wt) (hW:∀ x∈R,(W x).Nodup) (he:e∈R) (hr:r∈W e) (hp:Pr e r = false) (hrq:r∈q) (hle:∀ x∈q,st x≤st r+1) (hpr:∀ x∈R,∀ w∈W x,Pr x w = true→st w≤st r) (hn:e∉q) (hc:own e = true∨wt e - 1 = 0) :
    Mid W own R G (more Pr e r) (q++[e]) (fun x=>if x = e then st r+1 else st x) (fun x=>if x = e then wt e - 1 else wt x):=by
  have hge:e∉G:=fun z=>hn (h.g0 e z).1
  have hre:r≠e:=fun z=>hn (z▸hrq)
  have ne:∀ x∈q,x≠e:=fun x hx z=>hn (z▸hx)
  have memq:∀ x,x≠e→(x∈q++[e]↔x∈q):=fun x z=>by simp [z]
  have all0:own e = false→∀ w∈W e,Pr e w = true∨w = r:=fun ho w hw=>by
    have hwt:=wt_more h hW he hr hp e he
    rw [if_pos rfl] at hwt
    rcases hc with hc | hc
    · rw [hc] at ho; cases ho
    · rw [hc] at hwt
      have z0:(W e).countP (fun w=>!more Pr e r e w) = 0:=by omega
      have:=List.countP_eq_zero.mp z0 w hw
      rw [more_self] at this
      cases ep:Pr e w with
      | true=>exact .inl rfl
      | false=>exact .inr (by simpa [ep] using this)
  refine ⟨?_,?_,?_,?_,?_,wt_more h hW he hr hp,?_,?_,?_,?_,?_⟩
  · rw [List.nodup_append]
    refine ⟨h.nd,by simp,fun a ha b hb=>?_⟩
    rw [List.mem_singleton.mp hb]
    exact ne a ha
  · intro x hx
    rcases List.mem_append.mp hx with hx | hx
    · exact h.sub x hx
    · rw [List.mem_singleton.mp hx]; exact he
  · intro g hg
    obtain ⟨a,b⟩:=h.g0 g hg
    have z:g≠e:=fun z=>hge (z▸hg)
    exact ⟨List.mem_append_left _ a,by simp only [if_neg z]; exact b⟩
  · intro x hx hx0
    by_cases z:x = e
    · simp only [if_pos z] at hx0
      omega
    · simp only [if_neg z] at hx0
      exact h.g1 x ((memq x z).mp hx) hx0
  · intro x hx w hw p
    by_cases z:x = e
    · subst z
      rw [more_self,Bool.or_eq_true,decide_eq_true_eq] at p
      rcases p with p | p
      · exact List.mem_append_left _ (h.prq x hx w hw p)
      · rw [p]; exact List.mem_append_left _ hrq
    · rw [more_ne z] at p
      exact List.mem_append_left _ (h.prq x hx w hw p)
  · intro x hx hg ho
    by_cases z:x = e
    · subst z
      exact ⟨fun _=>⟨r,hr,by rw [more_self]; simp⟩,fun _=>by simp⟩
    · rw [memq x z,h.memO x hx hg ho]
      simp only [more_ne z]
  · intro x hx hg ho
    by_cases z:x = e
    · subst z
      refine ⟨fun _=>⟨fun z=>absurd hr (by rw [z]; simp),fun w hw=>?_⟩,fun _=>by simp⟩
      rw [more_self]
      rcases all0 ho w hw with p | p
      · simp [p]
      · simp [p]
    · rw [memq x z,h.memX x hx hg ho]
      simp only [more_ne z]
  · intro x hx hg ho
    by_cases z:x = e
    · subst z
      refine ⟨⟨r,hr,by rw [more_self]; simp,by simp [hre]⟩,fun w hw p=>?_⟩
      rw [more_self,Bool.or_eq_true,decide_eq_true_eq] at p
      rcases p with p | p
      · exact absurd ((h.memO x he hg ho).mpr ⟨w,hw,p⟩) hn
      · rw [p]; simp [hre]
    · have hxq:=(memq x z).mp hx
      obtain ⟨⟨w,hw,p,z1⟩,b⟩:=h.stO x hxq hg ho
      have wq:=h.prq x (h.sub x hxq) w hw p
      refine ⟨⟨w,hw,by simp [more,p],by simp only [if_neg z,if_neg (ne w wq)]; exact z1⟩,fun w' hw' p'=>?_⟩
      rw [more_ne z] at p'
      have wq':=h.prq x (h.sub x hxq) w' hw' p'
      simp only [if_neg z,if_neg (ne w' wq')]
      exact b w' hw' p'
  · intro x hx hg ho
    by_cases z:x = e
    · subst z
      refine ⟨⟨r,hr,by simp [hre]⟩,fun w hw=>?_⟩
      rcases all0 ho w hw with p | p
      · have wq:=h.prq x he w hw p
        have:=hpr x he w hw p
        rw [if_neg (ne w wq),if_pos rfl]
        exact Nat.lt_succ_of_le ‹_›
      · rw [p]; simp [hre]
    · have hxq:=(memq x z).mp hx
      obtain ⟨⟨w,hw,z1⟩,b⟩:=h.stX x hxq hg ho
      have al:=((h.memX x (h.sub x hxq) hg ho).mp hxq).2
      have wq:∀ w∈W x,w≠e:=fun w hw=>ne w (h.prq x (h.sub x hxq) w hw (al w hw))
      refine ⟨⟨w,hw,by simp only [if_neg z,if_neg (wq w hw)]; exact z1⟩,fun w' hw'=>?_⟩
      simp only [if_neg z,if_neg (wq w' hw')]
      exact b w' hw'
  · rw [List.pairwise_append]
    refine ⟨h.ord.imp_of_mem fun {a b} ha hb x=>?_,List.pairwise_singleton _ _,fun a ha b hb=>?_⟩
    · simp only [if_neg (ne a ha),if_neg (ne b hb)]
      exact x
    · rw [List.mem_singleton.mp hb]
      rw [if_neg (ne a ha),if_pos rfl]
      exact hle a ha
end
structure Drawn (W:Int→List Int) (own:Int→Bool) (R G:List Int) (q:List Int) (st:Int→Nat):Prop where
  nd:q.Nodup
  sub:∀ e∈q,e∈R
  g0:∀ g∈G,g∈q∧st g = 0
  g1:∀ e∈q,st e = 0→e∈G
  memO:∀ e∈R,e∉G→own e = true→(e∈q↔∃ w∈W e,w∈q)
  memX:∀ e∈R,e∉G→own e = false→(e∈q↔W e≠[]∧∀ w∈W e,w∈q)
  stO:∀ e∈q,e∉G→own e = true→(∃ w∈W e,w∈q∧st e = st w+1)∧∀ w∈W e,w∈q→st e≤st w+1
  stX:∀ e∈q,e∉G→own e = false→(∃ w∈W e,st e = st w+1)∧∀ w∈W e,w∈q∧st w+1≤st e
theorem Mid.fin {W:Int→List Int} {own:Int→Bool} {R G:List Int} {q:List Int} {st:Int→Nat} {wt:Int→Int} (h:Mid W own R G (fun _ w=>decide (w∈q)) q st wt):Drawn W own R G q st where
  nd:=h.nd
  sub:=h.sub
  g0:=h.g0
  g1:=h.g1
  memO:=fun e he hg ho=>by simpa using h.memO e he hg ho
  memX:=fun e he hg ho=>by simpa using h.memX e he hg ho
  stO:=fun e he hg ho=>by simpa using h.stO e he hg ho
  stX:=fun e he hg ho=>by
    obtain ⟨a,b⟩:=h.stX e he hg ho
    have c:=((h.memX e (h.sub e he) hg ho).mp he).2
    exact ⟨a,fun w hw=>⟨by simpa using c w hw,b w hw⟩⟩
theorem Drawn.le {W:Int→List Int} {own:Int→Bool} {R G:List Int} {q q':List Int} {st st':Int→Nat} (h:Drawn W own R G q st) (h':Drawn W own R G q' st'):∀ (n:Nat) (e:Int),e∈q→st e≤n→e∈q'∧st' e≤st e:=by
  intro n
  induction n with
  | zero =>
    intro e he hn
    have hg:=h.g1 e he (by omega)
    obtain ⟨a,b⟩:=h'.g0 e hg
    exact ⟨a,by omega⟩
  | succ n ih =>
    intro e he hn
    by_cases hg:e∈G
    · obtain ⟨a,b⟩:=h'.g0 e hg
      exact ⟨a,by omega⟩
    · have hR:=h.sub e he
      cases ho:own e with
      | true =>
        obtain ⟨⟨w,hw,wq,z⟩,_⟩:=h.stO e he hg ho
        obtain ⟨a,b⟩:=ih w wq (by omega)
        have e':=(h'.memO e hR hg ho).mpr ⟨w,hw,a⟩
        have:=(h'.stO e e' hg ho).2 w hw a
        exact ⟨e',by omega⟩
      | false =>
        obtain ⟨_,b⟩:=h.stX e he hg ho
        have ne:=((h.memX e hR hg ho).mp he).1
        have al:∀ w∈W e,w∈q'∧st' w≤st w:=fun w hw=>ih w (b w hw).1 (by have:=(b w hw).2; omega)
        have e':=(h'.memX e hR hg ho).mpr ⟨ne,fun w hw=>(al w hw).1⟩
        obtain ⟨w,hw,z⟩:=(h'.stX e e' hg ho).1
        have:=(b w hw).2
        have:=(al w hw).2
        exact ⟨e',by omega⟩
theorem Drawn.same {W:Int→List Int} {own:Int→Bool} {R G:List Int} {q q':List Int} {st st':Int→Nat} (h:Drawn W own R G q st) (h':Drawn W own R G q' st') (e:Int):(e∈q↔e∈q')∧(e∈q→st e = st' e):=by
  have a:=fun he=>h.le h' (st e) e he (Nat.le_refl _)
  have b:=fun he=>h'.le h (st' e) e he (Nat.le_refl _)
  refine ⟨⟨fun z=>(a z).1,fun z=>(b z).1⟩,fun z=>?_⟩
  have:=(a z).2
  have:=(b (a z).1).2
  omega
end Bf

namespace L2
open PySem
def dI (R:List Int) (f:Int→V):List (Key×V):=R.map fun r=>(Sum.inl r,f r)
theorem dI_len (R:List Int) (f:Int→V):(dI R f).length = R.length:=List.length_map ..
theorem dI_keys (R:List Int) (f:Int→V):(dI R f).map (fun kv=>kV kv.1) = R.map V.int:=by
  rw [dI,List.map_map]
  rfl
theorem dI_congr {R:List Int} {f g:Int→V} (h:∀ r∈R,f r = g r):dI R f = dI R g:=List.map_congr_left fun r hr=>by rw [h r hr]
theorem dI_append (R S:List Int) (f:Int→V):dI (R++S) f = dI R f++dI S f:=List.map_append ..
theorem val_dI {f:Int→V} {r:Int}:∀ {R:List Int},valV (dI R f) (Sum.inl r) = if r∈R then some (f r) else none
  | []=>rfl
  | a::R=>by
    have ih:=val_dI (f:=f) (r:=r) (R:=R)
    unfold valV dI at ih ⊢
    rw [List.map_cons,List.find?_cons]
    by_cases e:a = r
    · subst e
      simp
    · have e':¬ ((Sum.inl a:Key) = Sum.inl r):=fun z=>e (Sum.inl.inj z)
      rw [decide_eq_false e']
      rw [ih]
      have e2:¬ r = a:=fun z=>e z.symm
      simp [e2]
theorem any_dI {f:Int→V} {r:Int} {R:List Int}:((dI R f).any fun kv=>decide (kv.1 = (Sum.inl r:Key))) = decide (r∈R):=by
  rw [Bool.eq_iff_iff,List.any_eq_true,decide_eq_true_eq]
  constructor
  · rintro ⟨kv,h,e⟩
    obtain ⟨a,ha,rfl⟩:=List.mem_map.mp h
    rw [← Sum.inl.inj (of_decide_eq_true e)]
    exact ha
  · intro h
    exact ⟨_,List.mem_map.mpr ⟨r,h,rfl⟩,decide_eq_true rfl⟩
theorem put_new {f:Int→V} {r:Int} {v:V} {R:List Int} (h:r∉R):putK (dI R f) (Sum.inl r) v = dI (R++[r]) (fun x=>if x = r then v else f x):=by
  unfold putK
  rw [any_dI,if_neg (by simpa using h),dI_append]
  have e:dI R (fun x=>if x = r then v else f x) = dI R f:=dI_congr fun x hx=>if_neg (fun (z:x = r)=>h (z▸hx))
  rw [e]
  simp [dI]
theorem put_old {f:Int→V} {r:Int} {v:V} {R:List Int} (h:r∈R):putK (dI R f) (Sum.inl r) v = dI R (fun x=>if x = r then v else f x):=by
  unfold putK
  rw [any_dI,if_pos (by simpa using h),dI,dI,List.map_map]
  refine List.map_congr_left fun x _=>?_
  show (if (Sum.inl x:Key) = Sum.inl r then ((Sum.inl x:Key),v) else (Sum.inl x,f x)) = (Sum.inl x,if x = r then v else f x)
  by_cases e:x = r
  · subst e
    simp
  · have e':¬ ((Sum.inl x:Key) = Sum.inl r):=fun z=>e (Sum.inl.inj z)
    rw [if_neg e',if_neg e]
theorem merge_more {f:Int→V}:∀ {B A:List Int},(A++B).Nodup→mergeK (dI A f) (dI B f) = dI (A++B) f
  | [],A,_=>by rw [List.append_nil]; rfl
  | b::B,A,h=>by
    have hb:b∉A:=fun z=>by
      rw [List.nodup_append] at h
      exact h.2.2 b z b (by simp) rfl
    show mergeK (putK (dI A f) (Sum.inl b) (f b)) (dI B f) = _
    rw [put_new hb,dI_congr (g:=f) (fun x _=>by split<;>simp_all),merge_more (by simpa using h)]
    simp
theorem merge_nodup {f:Int→V} {R:List Int} (h:R.Nodup):mergeK [] (dI R f) = dI R f:=by
  exact merge_more (f:=f) (A:=[]) (B:=R) (by simpa using h)
def ddF:List Int→List Int→List Int
  | A,[]=>A
  | A,b::B=>if b∈A then ddF A B else ddF (A++[b]) B
theorem merge_goal {v:V}:∀ {B A:List Int},mergeK (dI A fun _=>v) (dI B fun _=>v) = dI (ddF A B) fun _=>v
  | [],A=>rfl
  | b::B,A=>by
    show mergeK (putK (dI A fun _=>v) (Sum.inl b) v) (dI B fun _=>v) = _
    unfold ddF
    by_cases h:b∈A
    · rw [if_pos h,put_old h,dI_congr (g:=fun _=>v) (fun x _=>by split<;>rfl),merge_goal]
    · rw [if_neg h,put_new h,dI_congr (g:=fun _=>v) (fun x _=>by split<;>rfl),merge_goal]
theorem ddF_mem:∀ {B A:List Int} {x:Int},x∈ddF A B↔x∈A∨x∈B
  | [],A,x=>by simp [ddF]
  | b::B,A,x=>by
    unfold ddF
    split
    · rename_i h
      rw [ddF_mem]
      simp only [List.mem_cons]
      constructor
      · rintro (z | z)
        · exact .inl z
        · exact .inr (.inr z)
      · rintro (z | z | z)
        · exact .inl z
        · exact .inl (z▸h)
        · exact .inr z
    · rw [ddF_mem,List.mem_append,List.mem_singleton,List.mem_cons,or_assoc]
theorem ddF_nodup:∀ {B A:List Int},A.Nodup→(ddF A B).Nodup
  | [],A,h=>h
  | b::B,A,h=>by
    unfold ddF
    split
    · exact ddF_nodup h
    · rename_i hb
      refine ddF_nodup (List.nodup_append.mpr ⟨h,by simp,fun a ha c hc=>?_⟩)
      rw [List.mem_singleton.mp hc]
      exact fun z=>hb (z▸ha)
def rm (hs:List Mi.Room) (r:Int):Mi.Room:=hs.getD r.toNat (0,0,[])
def wIn (hs:List Mi.Room) (R:List Int) (r:Int):List Int:=(rm hs r).2.2.filter fun w=>decide (w∈R)
def ents (hs:List Mi.Room) (R:List Int) (r:Int):List Int:=R.filter fun e=>decide (r∈wIn hs R e)
theorem wIn_sub {hs:List Mi.Room} {R:List Int} {r w:Int} (h:w∈wIn hs R r):w∈R:=of_decide_eq_true (List.mem_filter.mp h).2
theorem mem_ents {hs:List Mi.Room} {R:List Int} {r e:Int}:e∈ents hs R r↔e∈R∧r∈wIn hs R e:=by
  rw [ents,List.mem_filter,decide_eq_true_eq]
def WaysAt (H:Hp) (d:Addr) (hs:List Mi.Room) (R:List Int):Prop:=∃ (o:Obj) (wa:Int→Addr),H d = some (.frz o (.dK (dI R fun r=>.ref (wa r))))∧∀ r∈R,H (wa r) = some (.lst ((wIn hs R r).map V.int))
def EntsAt (H:Hp) (d:Addr) (hs:List Mi.Room) (R:List Int):Prop:=∃ (ea:Int→Addr),H d = some (.dK (dI R fun r=>.ref (ea r)))∧∀ r∈R,H (ea r) = some (.lst ((ents hs R r).map V.int))
def StepsAt (H:Hp) (d:Addr) (q:List Int) (st:Int→Nat):Prop:=∃ o:Obj,H d = some (.frz o (.dK (dI q fun e=>.int (st e:Int))))
theorem WaysAt.same {H H':Hp} {d:Addr} {hs:List Mi.Room} {R:List Int} (h:WaysAt H d hs R) (s:Same H H'):WaysAt H' d hs R:=by
  obtain ⟨o,wa,a,b⟩:=h
  exact ⟨o,wa,s _ _ a,fun r hr=>s _ _ (b r hr)⟩
theorem EntsAt.same {H H':Hp} {d:Addr} {hs:List Mi.Room} {R:List Int} (h:EntsAt H d hs R) (s:Same H H'):EntsAt H' d hs R:=by
  obtain ⟨wa,a,b⟩:=h
  exact ⟨wa,s _ _ a,fun r hr=>s _ _ (b r hr)⟩
theorem StepsAt.same {H H':Hp} {d:Addr} {q:List Int} {st:Int→Nat} (h:StepsAt H d q st) (s:Same H H'):StepsAt H' d q st:=by
  obtain ⟨o,a⟩:=h
  exact ⟨o,s _ _ a⟩
end L2

namespace Law
open PySem L2
abbrev sSolved:Stmt:=top 6
abbrev sSettled:Stmt:=top 7
abbrev sWonPart:Stmt:=top 8
abbrev sLed:Stmt:=top 9
abbrev sMove:Stmt:=top 10
abbrev sDrawn:Stmt:=top 2
abbrev sWaysIn:Stmt:=top 3
abbrev sEntries:Stmt:=top 4
section
seal PA PE PS PSs PT PI PG PGs PIf
variable {P:Program} {w:World} {K:PySem.W.Frag} {mg:Str→Option Value} {base:Heap} {f g:Addr} {fd gd:FuncData}
theorem pair_get {F:Mi.Room→V→Prop}:∀ {l:List Mi.Room} {vs:List V},Paired F l vs→∀ {i:Nat} {r:Mi.Room},l[i]? = some r→∃ v,vs[i]? = some v∧F r v
  | _,_,.nil,i,r,e=>by simp at e
  | _,_,.cons h t,0,r,e=>by simp at e; subst e; exact (xr0 rfl h)
  | _,_,.cons _ t,i+1,r,e=>by simpa using pair_get t (i:=i) (by simpa using e)
theorem rm_at {H:Hp} {l:Addr} {hs:List Mi.Room} {x:Int} (hA:HallAt H l hs) (h0:0≤x) (h1:x < (hs.length:Int)) :
    ∃ vs p q,H l = some (.lst vs)∧atI vs x = some (.ref p)∧H p = some (.tup [.int (rm hs x).1,.int (rm hs x).2.1,.ref q])∧H q = some (.tup ((rm hs x).2.2.map V.int)):=by
  obtain ⟨vs,e,pr⟩:=hA
  have hk:x.toNat < hs.length:=by omega
  obtain ⟨v,ev,y26⟩:=pair_get pr (List.getElem?_eq_getElem hk)
  refine xe2 y26 fun p q y26=>?_
  obtain ⟨rfl,hp,hq⟩:=y26
  have eg:rm hs x = hs[x.toNat]:=by simp [rm,List.getD,List.getElem?_eq_getElem hk]
  refine ⟨vs,p,q,e,?_,by rw [eg]; exact hp,by rw [eg]; exact hq⟩
  have z:=atI_nat ev
  rwa [show ((x.toNat:Nat):Int) = x by omega] at z
structure Rms (hs:List Mi.Room) (R:List Int):Prop where
  nd:R.Nodup
  len:R.length≤100
  hl:hs.length≤100
  inn:∀ r∈R,0≤r∧r < (hs.length:Int)
  ws:∀ r∈R,(rm hs r).2.2.Nodup∧(rm hs r).2.2.length≤100
def spWaysIn (K:PySem.W.Frag):Sp:=fun vs H Q _=>∃ (l rl:Addr) (hs:List Mi.Room) (R:List Int),vs = [.ref l,.ref rl]∧HallAt H l hs∧SqL K H rl (R.map V.int)∧Rms hs R∧∀ d H',Same H H'→H d = none→WaysAt H' d hs R→Q (.ref d) H'
theorem scWaysIn:FnScope ["hall","rooms","inside","ways","room"] ["hall","rooms"] (defScope sWaysIn):=⟨rfl,rfl,rfl,by decide +kernel,rfl,by decide +kernel,by decide +kernel⟩
theorem ndRoom:(["room"]:List Str).Nodup:=by decide +kernel
theorem ndWayI:(["way","inside"]:List Str).Nodup:=by decide +kernel
theorem pairs_dI {H:Hp}:∀ {R:List Int} {f:Int→V} {ps:List Addr},Paired (fun p (r:Int)=>H p = some (.tup [.int r,f r])) ps R→Paired (PairAt H) ps (dI R f)
  | [],_,_,.nil=>.nil
  | r::R,f,_,.cons h t=>.cons h (pairs_dI t)
theorem ok_waysin (F:Fun K "ways_within" "ways_within" sWaysIn f fd) (md:mg "dict" = none):FnOk P w K mg base CX0 1 f fd ["hall","rooms"] (spWaysIn K):=by
  refine F.ok scWaysIn (fun vs H Q E h=>?_) (fun cdv A outer s H vs Q E hr h=>?_)
  · refine xe4 h fun l rl hs R y49=>?_
    obtain ⟨rfl,_⟩:=y49
    rfl
  refine xe4 h fun l rl hs R y51=>?_
  obtain ⟨rfl,hA,hR,rms,q⟩:=y51
  have hu:=hu_of hr
  refine ⟨_,pss_cons (ps_set (i:=2) scWaysIn.nd rfl (Or.inr rfl) (pe_callTy (call_dictP rfl) rfl md (by decide +kernel:bootBuiltins "dict" = some (.type "dict")) (pa_cons (pe_comp (N:=["room"]) (capt:=[none]) rfl (pi_list (pv 1)) rfl (by repeat (first | exact .nil | refine .cons rfl ?_))
        (by repeat (first | exact .nil | refine .skip (by decide) (by decide) ?_ | refine .free ⟨_,rfl⟩ ?_)) (.tgt .nil)
        (fun _ _ _ _ _=>pg_name (i:=0) ndRoom rfl (Or.inl rfl)) (fun _ _ _ _ _=>pif_nil)
        (fun _ _ _ _ _=>pe_tup (pa_cons (pv 0) (pa_cons pe_bl pa_nil)))) pa_nil)))
    (pss_cons (ps_set (i:=3) scWaysIn.nd rfl (Or.inl rfl) pe_dnewK)
    (pss_cons (ps_for PassesOwn.never rfl (pi_list (pv 1)) (pg_name (i:=4) scWaysIn.nd rfl (Or.inl rfl))
      (pss_one (ps_dput hu (pv 3) (pv 4) (pe_comp (N:=["way","inside"]) (capt:=[none,some 2]) rfl (pi_tup (pe_ix ix_tup (pe_ix ix_list (pv 0) (pv 4) (fun _ _=>rfl)) pe_int (fun _ _=>rfl))) rfl (by repeat (first | exact .nil | refine .cons rfl ?_))
        (by repeat (first | exact .nil | refine .skip (by decide) (by decide) ?_ | refine .free ⟨_,rfl⟩ ?_)) (.tgt (.var rfl (.inl rfl) ⟨_,rfl⟩ (.inl rfl) .nil))
        (fun _ _ _ _ _=>pg_name (i:=0) ndWayI rfl (Or.inl rfl)) (fun _ _ _ _ _=>pif_one (pt_cmp (pc_din hu (pv 0) (pv 1)))) (fun _ _ _ _ _=>pv 0)) rfl)))
    (pss_one (ps_ret (pe_frz (pv 3)))))),?_⟩
  first | dsimp only [nxK,nxP,nxW] | skip
  have lR:=rms.len
  refine (xr0 rfl ⟨rl,rfl,⟨_,hR⟩,?_⟩)
  refine comp_list (K:=K) (a:=rl) (xs:=R.map V.int) (fun D i ys H2=>Same H H2∧H D = none∧H2 D = some (.lst ys)∧∃ ps:List Addr,ys = ps.map V.ref∧Paired (fun p (r:Int)=>H2 p = some (.tup [.int r,.bl true])) ps (R.take i)) ?_ ?_ ?_ ?_
  · exact fun D hD=>⟨same_new hD _,hD,upd_same,[],rfl,.nil⟩
  · rintro D i ys H2 hi ⟨sm,hD,h2,ps,ey,pp⟩
    refine ⟨sm.seq hR,h2,fun _=>small1000 ?_⟩
    have:=Paired.length pp
    rw [ey,List.length_map,this,List.length_take]
    omega
  · rintro D i x ys H2 hx ⟨sm,hD,h2,ps,ey,pp⟩
    rw [List.getElem?_map] at hx
    obtain ⟨r,hr',exr⟩:=Option.map_eq_some_iff.mp hx
    subst exr
    obtain ⟨hi,er⟩:=List.getElem?_eq_some_iff.mp hr'
    refine ⟨trivial,xr0 rfl ⟨(by show 2≤sizeLine; decide),fun p hp=>?_⟩⟩
    have s3:=same_new hp (.tup [.int r,.bl true])
    have h3:=s3 _ _ h2
    have kt:∀ b xs,(upd H2 p (.tup [.int r,.bl true])) b = some (.tup xs)→(upd (upd H2 p (.tup [.int r,.bl true])) D (.lst (ys++[.ref p]))) b = some (.tup xs):=fun b xs e=>by
      rw [upd_ne (ne_of e h3 (by intro z; cases z))]
      exact e
    refine ⟨h3,fun b o e=>?_,hD,upd_same,ps++[p],by rw [ey,List.map_append]; rfl,?_⟩
    · rw [upd_ne (ne_of_none e hD)]
      exact s3 _ _ (sm _ _ e)
    · rw [List.take_succ_eq_append_getElem hi,er]
      exact Paired.snoc (Paired.imp' (fun a b z=>kt _ _ (s3 _ _ z)) pp) (kt _ _ upd_same)
  rintro D ys H2 ⟨sm2,hD,h2,ps,ey,pp⟩
  rw [List.length_map,List.take_length] at pp
  subst ey
  refine ⟨D,ps,dI R fun _=>.bl true,rfl,h2,pairs_dI pp,by rw [dI_len]; omega,fun d hd=>?_⟩
  rw [merge_nodup rms.nd]
  have s3:=sm2.trans (same_new hd (.dK (dI R fun _=>.bl true)))
  have ed:(upd H2 d (.dK (dI R fun _=>.bl true))) d = some (.dK (dI R fun _=>.bl true)):=upd_same
  generalize upd H2 d (.dK (dI R fun _=>.bl true)) = H3 at s3 ed
  intro e he
  have s4:=same_new he (.dK [])
  have he0:H e = none:=s3.free he
  refine (xr0 rfl ⟨rl,rfl,⟨_,(s3.trans s4).seq hR⟩,?_⟩)
  refine for_list (K:=K) (a:=rl) (xs:=R.map V.int) (fun i σ H4=>Same H H4∧H4 d = some (.dK (dI R fun _=>.bl true))∧(∃ a,σ = [some (.ref l),some (.ref rl),some (.ref d),some (.ref e),a])∧∃ wa:Int→Addr,H4 e = some (.dK (dI (R.take i) fun r=>.ref (wa r)))∧∀ r∈R.take i,H4 (wa r) = some (.lst ((wIn hs R r).map V.int)))
    ⟨s3.trans s4,s4 _ _ ed,⟨_,rfl⟩,fun _=>0,upd_same,fun r hr=>by simp at hr⟩ (fun i σ H4 _ ⟨sm,_⟩=>sm.seq hR) ?_ ?_
  · rintro i x σ H4 hx ⟨sm,hd4,⟨a,rfl⟩,wa,he4,hwa⟩
    rw [List.getElem?_map] at hx
    obtain ⟨r,hr',exr⟩:=Option.map_eq_some_iff.mp hx
    subst exr
    obtain ⟨hi,er⟩:=List.getElem?_eq_some_iff.mp hr'
    have hrm:=List.mem_of_getElem? hr'
    obtain ⟨r0,r1⟩:=rms.inn r hrm
    obtain ⟨wn,wl⟩:=rms.ws r hrm
    obtain ⟨vs,p,qa,el,hat,hp,hq⟩:=rm_at (HallAt.same hA sm) r0 r1
    refine (xr0 rfl (xr0 rfl (xn4 l vs r _ ⟨rfl,rfl,SqL.of el,hat,p,_,_,_,rfl,rfl,SqT.of hp,(show atI [V.int (rm hs r).1,V.int (rm hs r).2.1,V.ref qa] 2 = some _ from rfl),qa,rfl,⟨_,SqT.of hq⟩,?_⟩)))
    refine comp_tup (K:=K) (a:=qa) (xs:=(rm hs r).2.2.map V.int) (fun D i ys H5=>Same H4 H5∧H4 D = none∧H5 D = some (.lst ys)∧ys = (((rm hs r).2.2.take i).filter fun w=>decide (w∈R)).map V.int) ?_ ?_ ?_ ?_
    · exact fun D hD=>⟨same_new hD _,hD,upd_same,rfl⟩
    · rintro D i ys H5 hi5 ⟨sm5,hD5,h5,ey⟩
      refine ⟨SqT.of (sm5 _ _ hq),h5,fun _=>small1000 ?_⟩
      rw [ey,List.length_map]
      refine Nat.le_trans (List.length_filter_le _ _) ?_
      rw [List.length_take]
      omega
    · rintro D i x ys H5 hx5 ⟨sm5,hD5,h5,ey⟩
      rw [List.getElem?_map] at hx5
      obtain ⟨z,ez,exz⟩:=Option.map_eq_some_iff.mp hx5
      subst exz
      obtain ⟨hz,ezz⟩:=List.getElem?_eq_some_iff.mp ez
      refine ⟨⟨rfl,trivial⟩,_,rfl,_,rfl,d,_,rfl,DGet.k (k:=Sum.inl z) (sm5 _ _ hd4),_,rfl,?_⟩
      rw [val_dI]
      by_cases hzR:z∈R
      · rw [if_pos hzR]
        refine iteT (xr0 rfl ⟨h5,fun b o e=>?_,hD5,upd_same,?_⟩)
        · rw [upd_ne (ne_of_none e hD5)]
          exact sm5 _ _ e
        · rw [ey,List.take_succ_eq_append_getElem hz,ezz,List.filter_append,List.map_append]
          simp [hzR]
      · rw [if_neg hzR]
        refine iteF ⟨sm5,hD5,h5,?_⟩
        rw [ey,List.take_succ_eq_append_getElem hz,ezz,List.filter_append,List.map_append]
        simp [hzR]
    · rintro D ys H5 ⟨sm5,hD5,h5,ey⟩
      rw [List.length_map,List.take_length] at ey
      subst ey
      have he5:=sm5 _ _ he4
      have hnr:r∉R.take i:=fun z=>by
        have:=rms.nd
        rw [← List.take_append_drop i R,List.nodup_append] at this
        refine this.2.2 r z r ?_ rfl
        rw [List.drop_eq_getElem_cons hi,er]
        simp
      refine (xr0 rfl (xr0 rfl (xn2 e _ ⟨rfl,DPut.k (k:=Sum.inl r) he5 (by rw [dI_len,List.length_take]; exact small1000 (by omega)),?_⟩)))
      rw [put_new hnr]
      have heD:e≠D:=ne_of_none he4 hD5
      have ef:(fun x=>if x = r then V.ref D else V.ref (wa x)) = fun x=>V.ref (if x = r then D else wa x):=by
        funext x
        split<;>rfl
      rw [ef,← er,← List.take_succ_eq_append_getElem hi,er]
      have hwe:∀ x∈R.take i,wa x≠e:=fun x hx z=>by
        have:=hwa x hx
        rw [z,he4] at this
        cases this
      refine ⟨fun b o z=>?_,?_,⟨_,rfl⟩,fun x=>if x = r then D else wa x,upd_same,fun x hx=>?_⟩
      · rw [upd_ne (ne_of_none z he0)]
        exact sm5 _ _ (sm _ _ z)
      · rw [upd_ne (fun z=>?_)]
        · exact sm5 _ _ hd4
        · rw [z,he] at ed
          cases ed
      · rw [List.take_succ_eq_append_getElem hi,er] at hx
        by_cases z:x = r
        · simp only [if_pos z]
          rw [upd_ne heD.symm,h5,z]
          rfl
        · simp only [if_neg z]
          have hx':x∈R.take i:=by
            rcases List.mem_append.mp hx with hx | hx
            · exact hx
            · exact absurd (List.mem_singleton.mp hx) z
          rw [upd_ne (hwe x hx')]
          exact sm5 _ _ (hwa x hx')
  · rintro σ H4 ⟨sm,hd4,⟨a,rfl⟩,wa,he4,hwa⟩
    rw [List.length_map,List.take_length] at he4 hwa
    refine (xr0 rfl (xn2 e _ ⟨rfl,he4,fun o=>q e _ (fun b u z=>?_) he0 ⟨o,wa,upd_same,fun r hr=>?_⟩⟩))
    · rw [upd_ne (ne_of_none z he0)]
      exact sm _ _ z
    · rw [upd_ne (fun z=>?_)]
      · exact hwa r hr
      · have:=hwa r hr
        rw [z,he4] at this
        cases this
end
end Law

namespace Law
open PySem L2
section
seal PA PE PS PSs PT PI PG PGs PIf
variable {P:Program} {w:World} {K:PySem.W.Frag} {mg:Str→Option Value} {base:Heap} {f g:Addr} {fd gd:FuncData}
def spEntries:Sp:=fun vs H Q _=>∃ (d:Addr) (hs:List Mi.Room) (R:List Int),vs = [.ref d]∧WaysAt H d hs R∧Rms hs R∧∀ e H',Same H H'→H e = none→EntsAt H' e hs R→Q (.ref e) H'
theorem scEntries:FnScope ["ways","entries","room","way"] ["ways"] (defScope sEntries):=⟨rfl,rfl,rfl,by decide +kernel,rfl,by decide +kernel,by decide +kernel⟩
theorem addr_fun:∀ {R:List Int} {as:List Addr},R.Nodup→as.length = R.length→as.Nodup→∃ ea:Int→Addr,R.map ea = as∧∀ x∈R,∀ y∈R,ea x = ea y→x = y
  | [],[],_,_,_=>⟨fun _=>0,rfl,fun x hx=>by simp at hx⟩
  | [],_::_,_,h,_=>by simp at h
  | _::_,[],_,h,_=>by simp at h
  | r::R,a::as,nd,h,na=>by
    obtain ⟨n1,n2⟩:=List.nodup_cons.mp nd
    obtain ⟨m1,m2⟩:=List.nodup_cons.mp na
    obtain ⟨ea,e1,e2⟩:=addr_fun n2 (by simpa using h) m2
    have e3:R.map (fun x=>if x = r then a else ea x) = as:=by
      rw [← e1]
      exact List.map_congr_left fun x hx=>if_neg (fun (z:x = r)=>n1 (z▸hx))
    have hin:∀ x∈R,ea x∈as:=fun x hx=>by rw [← e1]; exact List.mem_map.mpr ⟨x,hx,rfl⟩
    refine ⟨fun x=>if x = r then a else ea x,by rw [List.map_cons,e3,if_pos rfl],fun x hx y hy e=>?_⟩
    simp only at e
    by_cases zx:x = r
    · by_cases zy:y = r
      · rw [zx,zy]
      · rw [if_pos zx,if_neg zy] at e
        have:y∈R:=(List.mem_cons.mp hy).resolve_left zy
        exact absurd (e▸hin y this) m1
    · have hxR:x∈R:=(List.mem_cons.mp hx).resolve_left zx
      by_cases zy:y = r
      · rw [if_neg zx,if_pos zy] at e
        exact absurd (e▸hin x hxR) m1
      · rw [if_neg zx,if_neg zy] at e
        exact e2 x hxR y ((List.mem_cons.mp hy).resolve_left zy) e
theorem zip_map {ea:Int→Addr}:∀ (R:List Int),R.zip (R.map ea) = R.map fun r=>(r,ea r)
  | []=>rfl
  | r::R=>by rw [List.map_cons,List.zip_cons_cons,zip_map R,List.map_cons]
theorem pairs_refs {H:Hp}:∀ {R:List Int} {ea:Int→Addr} {ps:List Addr},Paired (fun p (x:Int×Addr)=>H p = some (.tup [.int x.1,.ref x.2])) ps (R.map fun r=>(r,ea r))→Paired (PairAt H) ps (dI R fun r=>.ref (ea r))
  | [],_,_,.nil=>.nil
  | r::R,f,_,.cons h t=>.cons h (pairs_refs t)
theorem ok_entries (F:Fun K "entries_of" "entries_of" sEntries f fd) (md:mg "dict" = none):FnOk P w K mg base CX0 1 f fd ["ways"] spEntries:=by
  refine F.ok scEntries (fun vs H Q E h=>?_) (fun cdv A outer s H vs Q E hr h=>?_)
  · refine xe3 h fun d hs R y46=>?_
    obtain ⟨rfl,_⟩:=y46
    rfl
  refine xe3 h fun d hs R y48=>?_
  obtain ⟨rfl,⟨o,wa,hd,hwa⟩,rms,q⟩:=y48
  have hu:=hu_of hr
  refine ⟨_,pss_cons (ps_set (i:=1) scEntries.nd rfl (Or.inl rfl) (pe_callTy (call_dictP rfl) rfl md (by decide +kernel:bootBuiltins "dict" = some (.type "dict")) (pa_cons (pe_comp (N:=["room"]) (capt:=[none]) rfl (pi_dict (pv 0)) rfl (by repeat (first | exact .nil | refine .cons rfl ?_))
        (by repeat (first | exact .nil | refine .skip (by decide) (by decide) ?_ | refine .free ⟨_,rfl⟩ ?_)) (.tgt .nil)
        (fun _ _ _ _ _=>pg_name (i:=0) ndRoom rfl (Or.inl rfl)) (fun _ _ _ _ _=>pif_nil)
        (fun _ _ _ _ _=>pe_tup (pa_cons (pv 0) (pa_cons (pe_lst pa_nil) pa_nil)))) pa_nil)))
    (pss_cons (ps_for PassesOwn.never rfl (pi_dict (pv 0)) (pg_name (i:=2) scEntries.nd rfl (Or.inl rfl))
      (pss_one (ps_for PassesOwn.never rfl (pi_list (pe_dget hu (pv 0) (pv 2) (fun _ _=>rfl))) (pg_name (i:=3) scEntries.nd rfl (Or.inl rfl))
        (pss_one (ps_expr (pe_bm PySem.F.plainAttrs_list PySem.F.slot_list_append PySem.F.type_list_append mt_append (pe_dget hu (pv 1) (pv 3) (fun _ _=>rfl)) (pa_cons (pv 2) pa_nil)))))))
    (pss_one (ps_ret (pv 1)))),?_⟩
  first | dsimp only [nxK,nxP,nxW] | skip
  have lR:=rms.len
  have kl:(dI R fun r=>V.ref (wa r)).length = R.length:=dI_len _ _
  refine seqK fun kk1 qq1=>?_
  refine (xr0 rfl (xn3 d o _ ⟨rfl,hd,?_⟩))
  refine comp_dict (a:=d) (o:=o) (kvs:=dI R fun r=>.ref (wa r)) (fun D i ys H2=>Same H H2∧H D = none∧H2 D = some (.lst ys)∧∃ ps as:List Addr,ys = ps.map V.ref∧as.length = i∧as.Nodup∧Paired (fun p (x:Int×Addr)=>H2 p = some (.tup [.int x.1,.ref x.2])) ps ((R.take i).zip as)∧∀ a∈as,H2 a = some (.lst [])∧H a = none∧a≠D) ?_ ?_ ?_ ?_
  · exact fun D hD=>⟨same_new hD _,hD,upd_same,[],[],rfl,rfl,.nil,.nil,fun a ha=>by simp at ha⟩
  · rintro D i ys H2 hi ⟨sm,hD,h2,ps,as,ey,la,na,pp,ha⟩
    refine ⟨sm _ _ hd,h2,fun _=>small1000 ?_⟩
    have:=Paired.length pp
    rw [ey,List.length_map,this,List.length_zip,List.length_take]
    omega
  · rintro D i kv ys H2 hx ⟨sm,hD,h2,ps,as,ey,la,na,pp,ha⟩
    obtain ⟨r,hr',exr⟩:=Option.map_eq_some_iff.mp (by rw [← List.getElem?_map]; exact hx)
    subst exr
    obtain ⟨hi,er⟩:=List.getElem?_eq_some_iff.mp hr'
    refine ⟨trivial,xr0 rfl ⟨(by show 0≤sizeLine; decide),fun a haN=>⟨(by show 2≤sizeLine; decide),fun p hp=>?_⟩⟩⟩
    dsimp only [kV]
    have s3:=same_new haN (.lst [])
    have s4:=same_new hp (.tup [.int r,.ref a])
    have ea:(upd (upd H2 a (.lst [])) p (.tup [.int r,.ref a])) a = some (.lst []):=s4 _ _ upd_same
    have ep:(upd (upd H2 a (.lst [])) p (.tup [.int r,.ref a])) p = some (.tup [.int r,.ref a]):=upd_same
    have s34:=s3.trans s4
    have haD:a≠D:=fun z=>by rw [z,h2] at haN; cases haN
    generalize upd (upd H2 a (.lst [])) p (.tup [.int r,.ref a]) = H4 at ea ep s34
    have h4:=s34 _ _ h2
    have kt:∀ b xs,H4 b = some (.tup xs)→(upd H4 D (.lst (ys++[.ref p]))) b = some (.tup xs):=fun b xs e=>by
      rw [upd_ne (ne_of e h4 (by intro z; cases z))]
      exact e
    refine ⟨h4,fun b u e=>?_,hD,upd_same,ps++[p],as++[a],by rw [ey,List.map_append]; rfl,by rw [List.length_append,la]; rfl,?_,?_,fun b hb=>?_⟩
    · rw [upd_ne (ne_of_none e hD)]
      exact s34 _ _ (sm _ _ e)
    · refine List.nodup_append.mpr ⟨na,by simp,fun x hx y hy=>?_⟩
      rw [List.mem_singleton.mp hy]
      intro z
      have:=(ha x hx).1
      rw [z,haN] at this
      cases this
    · rw [List.take_succ_eq_append_getElem hi,er,List.zip_append (by rw [List.length_take,la]; omega)]
      exact Paired.snoc (Paired.imp' (fun a b z=>kt _ _ (s34 _ _ z)) pp) (kt _ _ ep)
    · rcases List.mem_append.mp hb with hb | hb
      · obtain ⟨b1,b2,b3⟩:=ha b hb
        exact ⟨by rw [upd_ne b3]; exact s34 _ _ b1,b2,b3⟩
      · rw [List.mem_singleton.mp hb]
        exact ⟨by rw [upd_ne haD]; exact ea,sm.free haN,haD⟩
  rintro D ys H2 ⟨sm2,hD,h2,ps,as,ey,la,na,pp,ha⟩
  rw [kl] at la pp
  rw [List.take_length] at pp
  subst ey
  obtain ⟨ea,e1,inj⟩:=addr_fun rms.nd la na
  rw [← e1,zip_map] at pp
  refine ⟨D,ps,dI R fun r=>.ref (ea r),rfl,h2,pairs_refs pp,by rw [dI_len]; omega,fun e he=>?_⟩
  refine qq1 _ _ ?_
  rw [merge_nodup rms.nd]
  have hea:∀ r∈R,H2 (ea r) = some (.lst [])∧H (ea r) = none:=fun r hr=>by
    obtain ⟨a,b,_⟩:=ha (ea r) (by rw [← e1]; exact List.mem_map.mpr ⟨r,hr,rfl⟩)
    exact ⟨a,b⟩
  have s3:=same_new he (.dK (dI R fun r=>.ref (ea r)))
  have ed:(upd H2 e (.dK (dI R fun r=>.ref (ea r)))) e = some (.dK (dI R fun r=>.ref (ea r))):=upd_same
  have he0:H e = none:=sm2.free he
  have hne:∀ r∈R,e≠ea r:=fun r hr z=>by
    have:=(hea r hr).1
    rw [← z,he] at this
    cases this
  have hea3:∀ r∈R,(upd H2 e (.dK (dI R fun r=>.ref (ea r)))) (ea r) = some (.lst []):=fun r hr=>s3 _ _ (hea r hr).1
  have sm3:=sm2.trans s3
  generalize upd H2 e (.dK (dI R fun r=>.ref (ea r))) = H3 at ed hea3 sm3
  refine (xr0 rfl (xn3 d o _ ⟨rfl,sm3 _ _ hd,?_⟩))
  refine for_dict (a:=d) (o:=o) (kvs:=dI R fun r=>.ref (wa r)) (fun i σ H4=>Same H H4∧H4 e = some (.dK (dI R fun r=>.ref (ea r)))∧(∃ a b,σ = [some (.ref d),some (.ref e),a,b])∧∀ x∈R,H4 (ea x) = some (.lst (((R.take i).filter fun y=>decide (x∈wIn hs R y)).map V.int)))
    ⟨sm3,ed,⟨_,_,rfl⟩,fun x hx=>hea3 x hx⟩ (fun i σ H4 _ ⟨sm,_⟩=>sm _ _ hd) ?_ ?_
  · rintro i kv σ H4 hx ⟨sm,he4,⟨a,b,rfl⟩,hl4⟩
    obtain ⟨r,hr',exr⟩:=Option.map_eq_some_iff.mp (by rw [← List.getElem?_map]; exact hx)
    subst exr
    obtain ⟨hi,er⟩:=List.getElem?_eq_some_iff.mp hr'
    have hrm:=List.mem_of_getElem? hr'
    have wn:(wIn hs R r).Nodup:=(rms.ws r hrm).1.filter _
    have wl:(wIn hs R r).length≤100:=Nat.le_trans (List.length_filter_le _ _) (rms.ws r hrm).2
    refine (xr0 rfl (xr0 rfl (xn2 d _ ⟨rfl,.inl ⟨_,.inl r,.inr ⟨o,sm _ _ hd⟩,rfl,by rw [val_dI,if_pos hrm]⟩,wa r,rfl,⟨_,SqL.of (sm _ _ (hwa r hrm))⟩,?_⟩)))
    refine for_list (K:=K) (a:=wa r) (xs:=(wIn hs R r).map V.int) (fun j σ H5=>Same H H5∧H5 e = some (.dK (dI R fun r=>.ref (ea r)))∧(∃ b,σ = [some (.ref d),some (.ref e),some (.int r),b])∧∀ x∈R,H5 (ea x) = some (.lst ((((R.take i).filter fun y=>decide (x∈wIn hs R y))++if x∈(wIn hs R r).take j then [r] else []).map V.int)))
      ⟨sm,he4,⟨_,rfl⟩,fun x hx=>by rw [hl4 x hx]; simp⟩ (fun j σ H5 _ ⟨s5,_⟩=>SqL.of (s5 _ _ (hwa r hrm))) ?_ ?_
    · rintro j x σ H5 hx5 ⟨s5,he5,⟨b,rfl⟩,hl5⟩
      rw [List.getElem?_map] at hx5
      obtain ⟨y,ey,exy⟩:=Option.map_eq_some_iff.mp hx5
      subst exy
      obtain ⟨hj,ejy⟩:=List.getElem?_eq_some_iff.mp ey
      have hyR:y∈R:=wIn_sub (List.mem_of_getElem? ey)
      have hny:y∉(wIn hs R r).take j:=fun z=>by
        rw [← List.take_append_drop j (wIn hs R r),List.nodup_append] at wn
        refine wn.2.2 y z y ?_ rfl
        rw [List.drop_eq_getElem_cons hj,ejy]
        simp
      have h5:=hl5 y hyR
      rw [if_neg hny,List.append_nil] at h5
      refine (xr0 rfl (xr0 rfl (xn2 e (V.ref (ea y)) ⟨rfl,.inl ⟨_,.inl y,.inl he5,rfl,by rw [val_dI,if_pos hyR]⟩,.inl ⟨rfl,_,SqL.of h5⟩,xr0 rfl (xn3 (ea y) _ _ ⟨rfl,rfl,h5,small1000 ?_,?_⟩)⟩)))
      · rw [List.length_map]
        refine Nat.le_trans (List.length_filter_le _ _) ?_
        rw [List.length_take]
        omega
      refine ⟨fun b u z=>?_,?_,⟨_,rfl⟩,fun x hx=>?_⟩
      · rw [upd_ne (ne_of_none z (hea y hyR).2)]
        exact s5 _ _ z
      · rw [upd_ne (hne y hyR)]
        exact he5
      · have tk:(wIn hs R r).take (j+1) = (wIn hs R r).take j++[y]:=by rw [List.take_succ_eq_append_getElem hj,ejy]
        by_cases z:x = y
        · subst z
          rw [upd_same,tk,if_pos (by simp)]
          simp
        · rw [upd_ne (fun e=>z (inj x hx y hyR e)),hl5 x hx,tk]
          simp [z]
    · rintro σ H5 ⟨s5,he5,⟨b,rfl⟩,hl5⟩
      refine ⟨s5,he5,⟨_,_,rfl⟩,fun x hx=>?_⟩
      rw [hl5 x hx,List.length_map,List.take_length,List.take_succ_eq_append_getElem hi,er,List.filter_append,List.filter_cons,List.filter_nil]
      by_cases z:x∈wIn hs R r
      · simp [z]
      · simp [z]
  · rintro σ H4 ⟨sm,he4,⟨a,b,rfl⟩,hl4⟩
    rw [kl,List.take_length] at hl4
    exact (xr0 rfl (q e H4 sm he0 ⟨ea,he4,hl4⟩))
end
end Law

namespace L2
theorem nodup_le:∀ {l R:List Int},l.Nodup→(∀ x∈l,x∈R)→l.length≤R.length
  | [],_,_,_=>Nat.zero_le _
  | a::l,R,h,s=>by
    obtain ⟨h1,h2⟩:=List.nodup_cons.mp h
    have:=nodup_le (R:=R.erase a) h2 fun x hx=>(List.mem_erase_of_ne (fun (z:x = a)=>h1 (z▸hx))).mpr (s x (List.mem_cons.mpr (.inr hx)))
    rw [List.length_erase_of_mem (s a (by simp))] at this
    have:=List.length_pos_of_mem (s a (by simp))
    rw [List.length_cons]
    omega
end L2
namespace Law
open PySem L2
section
seal PA PE PS PSs PT PI PG PGs PIf
variable {P:Program} {w:World} {K:PySem.W.Frag} {mg:Str→Option Value} {base:Heap} {f g:Addr} {fd gd:FuncData}
def ownB (hs:List Mi.Room) (h:Int) (e:Int):Bool:=decide ((rm hs e).1 = h)
def spDrawn (K:PySem.W.Frag):Sp:=fun vs H Q _=>∃ (l rl gl:Addr) (hs:List Mi.Room) (R G:List Int) (h:Int),vs = [.ref l,.ref rl,.int h,.ref gl]∧HallAt H l hs∧SqL K H rl (R.map V.int)∧SqL K H gl (G.map V.int)∧Rms hs R∧G.length≤100∧(∀ x∈G,x∈R) ∧
  ∀ d q st H',Same H H'→H d = none→StepsAt H' d q st→Bf.Drawn (wIn hs R) (ownB hs h) R G q st→Q (.ref d) H'
theorem scDrawn:FnScope ["hall","rooms","hand","goal","ways","entries","waiting","steps","queue","spot","room","entry"] ["hall","rooms","hand","goal"] (defScope sDrawn):=⟨rfl,rfl,rfl,by decide +kernel,rfl,by decide +kernel,by decide +kernel⟩
theorem ndRoomW:(["room","ways"]:List Str).Nodup:=by decide +kernel
def midD (l rl gl:Addr) (h:Int) (hs:List Mi.Room) (R G:List Int) (H:Hp):St→Hp→Prop:=fun σ' H'=>∃ (wd ed td sd qd:Addr) (H1:Hp),σ' = [some (.ref l),some (.ref rl),some (.int h),some (.ref gl),some (.ref wd),some (.ref ed),some (.ref td),some (.ref sd),some (.ref qd),some (.int 0),none,none] ∧
  Same H H1∧Same H1 H'∧EntsAt H1 ed hs R∧H1 td = none∧H1 sd = none∧H1 qd = none∧td≠sd∧H' td = some (.dK (dI R fun r=>.int ((wIn hs R r).length:Int)))∧H' sd = some (.dK (dI (ddF [] G) fun _=>.int 0))∧H' qd = some (.lst ((ddF [] G).map V.int))
theorem ok_drawn {fW fE:Addr} {dW dE:FuncData} (F:Fun K "drawn" "drawn" sDrawn f fd) (GW:FnOk P w K mg base CX0 1 fW dW ["hall","rooms"] (spWaysIn K)) (bW:Binds K dW ["hall","rooms"] []) (kW:PySem.W.keepIn K (.ref fW) = true) (mW:mg "ways_within" = some (.ref fW))
    (GE:FnOk P w K mg base CX0 1 fE dE ["ways"] spEntries) (bE:Binds K dE ["ways"] []) (kE:PySem.W.keepIn K (.ref fE) = true) (mE:mg "entries_of" = some (.ref fE)) (md:mg "dict" = none) (ml:mg "len" = none) (mli:mg "list" = none):FnOk P w K mg base CX0 2 f fd ["hall","rooms","hand","goal"] (spDrawn K):=by
  refine F.ok scDrawn (fun vs H Q E h=>?_) (fun cdv A outer s H vs Q E hr h=>?_)
  · refine xe7 h fun l rl gl hs R G h y31=>?_
    obtain ⟨rfl,_⟩:=y31
    rfl
  obtain ⟨l,rl,gl,hs,R,G,h,rfl,hA,hR,hG,rms,gln,gR,qq⟩:=h
  have hu:=hu_of hr
  refine ⟨_,pss_cons (ps_set (i:=4) scDrawn.nd rfl (Or.inr rfl) (pe_call GW hr rfl mW kW bW .nil pass0 (pa_cons (pv 0) (pa_cons (pv 1) pa_nil))))
    (pss_cons (ps_set (i:=5) scDrawn.nd rfl (Or.inl rfl) (pe_call GE hr rfl mE kE bE .nil pass0 (pa_cons (pv 4) pa_nil)))
    (pss_cons (ps_set (i:=6) scDrawn.nd rfl (Or.inl rfl) (pe_callTy (call_dictP rfl) rfl md (by decide +kernel:bootBuiltins "dict" = some (.type "dict")) (pa_cons (pe_comp (N:=["room","ways"]) (capt:=[none,some 4]) rfl (pi_list (pv 1)) rfl (by repeat (first | exact .nil | refine .cons rfl ?_))
        (by repeat (first | exact .nil | refine .skip (by decide) (by decide) ?_ | refine .free ⟨_,rfl⟩ ?_)) (.tgt (.var rfl (.inl rfl) ⟨_,rfl⟩ (.inl rfl) .nil))
        (fun _ _ _ _ _=>pg_name (i:=0) ndRoomW rfl (Or.inl rfl)) (fun _ _ _ _ _=>pif_nil)
        (fun _ _ _ _ _=>pe_tup (pa_cons (pv 0) (pa_cons (pe_callB (lenK K) rfl ml PySem.boot_len (pa_cons (pe_dget hu (pv 1) (pv 0) (fun _ _=>rfl)) pa_nil)) pa_nil)))) pa_nil)))
    (pss_cons (ps_set (i:=7) scDrawn.nd rfl (Or.inl rfl) (pe_callTy (call_dictP rfl) rfl md (by decide +kernel:bootBuiltins "dict" = some (.type "dict")) (pa_cons (pe_comp (N:=["room"]) (capt:=[none]) rfl (pi_list (pv 3)) rfl (by repeat (first | exact .nil | refine .cons rfl ?_))
        (by repeat (first | exact .nil | refine .skip (by decide) (by decide) ?_ | refine .free ⟨_,rfl⟩ ?_)) (.tgt .nil)
        (fun _ _ _ _ _=>pg_name (i:=0) ndRoom rfl (Or.inl rfl)) (fun _ _ _ _ _=>pif_nil)
        (fun _ _ _ _ _=>pe_tup (pa_cons (pv 0) (pa_cons pe_int pa_nil)))) pa_nil)))
    (pss_cons (ps_set (i:=8) scDrawn.nd rfl (Or.inl rfl) (pe_callTy (call_listD rfl) rfl mli PyProof.Rows.boot_list (pa_cons (pv 7) pa_nil)))
    (pss_cut (midD l rl gl h hs R G H) (ps_set (i:=9) scDrawn.nd rfl (Or.inl rfl) pe_int)
    (pss_cons (ps_while PassesOwn.never (pt_cmpR op_lt (pv 9) (pe_callB call_len_seq rfl ml PySem.boot_len (pa_cons (pv 8) pa_nil)) (nomark _))
      (pss_cons (ps_set (i:=10) scDrawn.nd rfl (Or.inl rfl) (pe_ix ix_list (pv 8) (pv 9) (fun _ _=>rfl)))
      (pss_cons (ps_set (i:=9) scDrawn.nd rfl (Or.inl rfl) (pe_op op_add (pv 9) pe_int))
      (pss_one (ps_for PassesOwn.never rfl (pi_list (pe_dget hu (pv 5) (pv 10) (fun _ _=>rfl))) (pg_name (i:=11) scDrawn.nd rfl (Or.inl rfl))
        (pss_cons (ps_dput hu (pv 6) (pv 11) (pe_op op_sub (pe_dget hu (pv 6) (pv 11) (fun _ _=>rfl)) pe_int) rfl)
        (pss_one (ps_if (PW.pt (pw_and (pt_cmp (pc_dnotin hu (pv 11) (pv 7))) (pw_and1 (PW.pt (pw_or (pt_cmpR op_eq (pe_ix ix_tup (pe_ix ix_list (pv 0) (pv 11) (fun _ _=>rfl)) pe_int (fun _ _=>rfl)) (pv 2) (nomark _)) (pw_or1 (pt_cmpR op_eq (pe_dget hu (pv 6) (pv 11) (fun _ _=>rfl)) pe_int (nomark _))))))))
          (pss_cons (ps_dput hu (pv 7) (pv 11) (pe_op op_add (pe_dget hu (pv 7) (pv 10) (fun _ _=>rfl)) pe_int) rfl)
          (pss_one (ps_expr (pe_bm PySem.F.plainAttrs_list PySem.F.slot_list_append PySem.F.type_list_append mt_append (pv 8) (pa_cons (pv 11) pa_nil))))) pss_nil))))))))
    (pss_one (ps_ret (pe_frz (pv 7)))))))))),?_⟩
  first | dsimp only [nxK,nxP,nxW] | skip
  have lR:=rms.len
  refine seqK fun kk1 qq1=>?_
  refine (xr0 rfl (xr0 rfl (xn4 l rl hs R ⟨rfl,hA,hR,rms,fun wd Ha sa hwd hWs=>?_⟩)))
  refine qq1 _ _ ?_
  refine seqK fun kk2 qq2=>?_
  refine (xr0 rfl (xn3 wd hs R ⟨rfl,hWs,rms,fun ed H1 sb hed hEs=>?_⟩))
  refine qq2 _ _ ?_
  have s1:=sa.trans sb
  obtain ⟨o,wa,hw1,hw2⟩:=hWs.same sb
  refine seqK fun kk3 qq3=>?_
  refine (xr0 rfl ⟨rl,rfl,⟨_,s1.seq hR⟩,?_⟩)
  refine comp_list (K:=K) (a:=rl) (xs:=R.map V.int) (fun D i ys H2=>Same H1 H2∧H1 D = none∧H2 D = some (.lst ys)∧∃ ps:List Addr,ys = ps.map V.ref∧Paired (fun p (r:Int)=>H2 p = some (.tup [.int r,.int ((wIn hs R r).length:Int)])) ps (R.take i)) ?_ ?_ ?_ ?_
  · exact fun D hD=>⟨same_new hD _,hD,upd_same,[],rfl,.nil⟩
  · rintro D i ys H2 hi ⟨sm,hD,h2,ps,ey,pp⟩
    refine ⟨(s1.trans sm).seq hR,h2,fun _=>small1000 ?_⟩
    have:=Paired.length pp
    rw [ey,List.length_map,this,List.length_take]
    omega
  · rintro D i x ys H2 hx ⟨sm,hD,h2,ps,ey,pp⟩
    rw [List.getElem?_map] at hx
    obtain ⟨r,hr',exr⟩:=Option.map_eq_some_iff.mp hx
    subst exr
    obtain ⟨hi,er⟩:=List.getElem?_eq_some_iff.mp hr'
    have hrm:=List.mem_of_getElem? hr'
    refine ⟨⟨rfl,trivial⟩,_,rfl,_,rfl,_,rfl,wd,V.ref (wa r),rfl,.inl ⟨_,.inl r,.inr ⟨o,sm _ _ hw1⟩,rfl,by rw [val_dI,if_pos hrm]⟩,wa r,_,rfl,.inl (SqL.of (sm _ _ (hw2 r hrm))),(by show 2≤sizeLine; decide),fun p hp=>?_⟩
    rw [List.length_map]
    have s3:=same_new hp (.tup [.int r,.int ((wIn hs R r).length:Int)])
    have h3:=s3 _ _ h2
    have kt:∀ b xs,(upd H2 p (.tup [.int r,.int ((wIn hs R r).length:Int)])) b = some (.tup xs)→(upd (upd H2 p (.tup [.int r,.int ((wIn hs R r).length:Int)])) D (.lst (ys++[.ref p]))) b = some (.tup xs):=fun b xs e=>by
      rw [upd_ne (ne_of e h3 (by intro z; cases z))]
      exact e
    refine ⟨h3,fun b o e=>?_,hD,upd_same,ps++[p],by rw [ey,List.map_append]; rfl,?_⟩
    · rw [upd_ne (ne_of_none e hD)]
      exact s3 _ _ (sm _ _ e)
    · rw [List.take_succ_eq_append_getElem hi,er]
      exact Paired.snoc (Paired.imp' (fun a b z=>kt _ _ (s3 _ _ z)) pp) (kt _ _ upd_same)
  rintro D ys H2 ⟨sm2,hD,h2,ps,ey,pp⟩
  rw [List.length_map,List.take_length] at pp
  subst ey
  refine ⟨D,ps,dI R fun r=>.int ((wIn hs R r).length:Int),rfl,h2,pairs_dI (f:=fun r=>.int ((wIn hs R r).length:Int)) pp,by rw [dI_len]; omega,fun td htd=>?_⟩
  refine qq3 _ _ ?_
  rw [merge_nodup rms.nd]
  have s3:=sm2.trans (same_new htd (.dK (dI R fun r=>.int ((wIn hs R r).length:Int))))
  have et3:(upd H2 td (.dK (dI R fun r=>.int ((wIn hs R r).length:Int)))) td = some (.dK (dI R fun r=>.int ((wIn hs R r).length:Int))):=upd_same
  have ht1:H1 td = none:=sm2.free htd
  generalize upd H2 td (.dK (dI R fun r=>.int ((wIn hs R r).length:Int))) = H3 at s3 et3
  refine seqK fun kk4 qq4=>?_
  refine (xr0 rfl ⟨gl,rfl,⟨_,(s1.trans s3).seq hG⟩,?_⟩)
  refine comp_list (K:=K) (a:=gl) (xs:=G.map V.int) (fun D i ys H4=>Same H3 H4∧H3 D = none∧H4 D = some (.lst ys)∧∃ ps:List Addr,ys = ps.map V.ref∧Paired (fun p (r:Int)=>H4 p = some (.tup [.int r,.int 0])) ps (G.take i)) ?_ ?_ ?_ ?_
  · exact fun D hD=>⟨same_new hD _,hD,upd_same,[],rfl,.nil⟩
  · rintro D i ys H4 hi ⟨sm,hD,h2,ps,ey,pp⟩
    refine ⟨(s1.trans (s3.trans sm)).seq hG,h2,fun _=>small1000 ?_⟩
    have:=Paired.length pp
    rw [ey,List.length_map,this,List.length_take]
    omega
  · rintro D i x ys H4 hx ⟨sm,hD,h2,ps,ey,pp⟩
    rw [List.getElem?_map] at hx
    obtain ⟨r,hr',exr⟩:=Option.map_eq_some_iff.mp hx
    subst exr
    obtain ⟨hi,er⟩:=List.getElem?_eq_some_iff.mp hr'
    refine ⟨trivial,xr0 rfl ⟨(by show 2≤sizeLine; decide),fun p hp=>?_⟩⟩
    have s5:=same_new hp (.tup [.int r,.int 0])
    have h3:=s5 _ _ h2
    have kt:∀ b xs,(upd H4 p (.tup [.int r,.int 0])) b = some (.tup xs)→(upd (upd H4 p (.tup [.int r,.int 0])) D (.lst (ys++[.ref p]))) b = some (.tup xs):=fun b xs e=>by
      rw [upd_ne (ne_of e h3 (by intro z; cases z))]
      exact e
    refine ⟨h3,fun b o e=>?_,hD,upd_same,ps++[p],by rw [ey,List.map_append]; rfl,?_⟩
    · rw [upd_ne (ne_of_none e hD)]
      exact s5 _ _ (sm _ _ e)
    · rw [List.take_succ_eq_append_getElem hi,er]
      exact Paired.snoc (Paired.imp' (fun a b z=>kt _ _ (s5 _ _ z)) pp) (kt _ _ upd_same)
  rintro D2 ys H4 ⟨sm4,hD2,h4,ps2,ey2,pp2⟩
  rw [List.length_map,List.take_length] at pp2
  subst ey2
  refine ⟨D2,ps2,dI G fun _=>.int 0,rfl,h4,pairs_dI (f:=fun _=>.int 0) pp2,by rw [dI_len]; omega,fun sd hsd=>?_⟩
  refine qq4 _ _ ?_
  rw [show mergeK [] (dI G fun _=>V.int 0) = dI (ddF [] G) fun _=>V.int 0 from merge_goal (A:=[])]
  have s5:=s3.trans (sm4.trans (same_new hsd (.dK (dI (ddF [] G) fun _=>.int 0))))
  have et5:=(sm4.trans (same_new hsd (.dK (dI (ddF [] G) fun _=>.int 0)))) _ _ et3
  have es5:(upd H4 sd (.dK (dI (ddF [] G) fun _=>.int 0))) sd = some (.dK (dI (ddF [] G) fun _=>.int 0)):=upd_same
  have hs1:H1 sd = none:=(s3.trans sm4).free hsd
  have nts:td≠sd:=fun z=>by
    have:=sm4 _ _ et3
    rw [z,hsd] at this
    cases this
  generalize upd H4 sd (.dK (dI (ddF [] G) fun _=>.int 0)) = H5 at s5 et5 es5
  refine seqK fun kk5 qq5=>?_
  refine (xr0 rfl (xn2 sd _ ⟨rfl,es5,fun qd hqd=>?_⟩))
  refine qq5 _ _ ?_
  rw [dI_keys]
  have s6:=same_new hqd (.lst ((ddF [] G).map V.int))
  refine ⟨⟨wd,ed,td,sd,qd,H1,rfl,s1,s5.trans s6,hEs,ht1,hs1,s5.free hqd,nts,s6 _ _ et5,s6 _ _ es5,upd_same⟩,?_⟩
  clear s6 hqd nts hs1 es5 et5 s5 hsd pp2 h4 hD2 sm4 ht1 et3 s3 htd pp h2 hD sm2 hw2 hw1 s1 hEs hed sb hWs hwd sa
  rintro σ' H7 z150
  refine xe6 z150 fun wd ed td sd qd H1 y150=>?_
  obtain ⟨rfl,s1,s7,⟨ea,hE1,hE2⟩,ht1,hs1,hq1,nts,et,es,eq⟩:=y150
  have nqs:qd≠sd:=fun z=>by rw [z,es] at eq; cases eq
  have nqt:qd≠td:=fun z=>by rw [z,et] at eq; cases eq
  have nst:sd≠td:=nts.symm
  have hW:∀ x∈R,(wIn hs R x).Nodup:=fun x hx=>(rms.ws x hx).1.filter _
  have init:Bf.Mid (wIn hs R) (ownB hs h) R G (fun _ w=>decide (w∈(ddF [] G).take 0)) (ddF [] G) (fun _=>0) (fun r=>((wIn hs R r).length:Int)):=by
    have mq:∀ x,x∈ddF [] G↔x∈G:=fun x=>by rw [ddF_mem]; simp
    refine ⟨ddF_nodup (by simp),fun x hx=>gR x ((mq x).mp hx),fun g hg=>⟨(mq g).mpr hg,rfl⟩,fun x hx _=>(mq x).mp hx,fun x _ w _ p=>by simp at p,fun x _=>by simp,fun x _ hg _=>?_,fun x _ hg _=>?_,fun x hx hg=>absurd ((mq x).mp hx) hg,fun x hx hg=>absurd ((mq x).mp hx) hg,?_⟩
    · rw [mq]
      simp [hg]
    · rw [mq]
      refine ⟨fun z=>absurd z hg,fun ⟨z1,z2⟩=>?_⟩
      obtain ⟨y,hy⟩:=List.exists_mem_of_ne_nil _ z1
      have:=z2 y hy
      simp at this
    · exact List.pairwise_of_forall (fun _ _=>Nat.le_refl _)
  refine ⟨fun m σ H2=>∃ (i:Nat) (q:List Int) (st:Int→Nat) (wt:Int→Int) (x10 x11:Option V),m = R.length - i∧i≤q.length∧σ = [some (.ref l),some (.ref rl),some (.int h),some (.ref gl),some (.ref wd),some (.ref ed),some (.ref td),some (.ref sd),some (.ref qd),some (.int (i:Int)),x10,x11] ∧
      Same H1 H2∧H2 td = some (.dK (dI R fun r=>.int (wt r)))∧H2 sd = some (.dK (dI q fun e=>.int (st e:Int)))∧H2 qd = some (.lst (q.map V.int))∧Bf.Mid (wIn hs R) (ownB hs h) R G (fun _ w=>decide (w∈q.take i)) q st wt∧∀ x∈q.drop i,∀ e∈q,st e≤st x+1,
    ⟨_,0,ddF [] G,fun _=>0,fun r=>((wIn hs R r).length:Int),none,none,rfl,Nat.zero_le _,rfl,s7,et,es,eq,init,fun x _ e _=>Nat.zero_le _⟩,?_⟩
  rintro m σ H2 ⟨i,q,st,wt,x10,x11,rfl,hiq,rfl,s2,ht2,hs2,hq2,mid,hx1⟩
  have lq:q.length≤R.length:=nodup_le mid.nd mid.sub
  refine (xr0 rfl (xr0 rfl (xn2 qd _ ⟨rfl,.inl (SqL.of hq2),xr2 rfl rfl (xr0 rfl ?_)⟩)))
  rw [List.length_map]
  rcases Nat.lt_or_ge i q.length with ci | ci
  case inr =>
    rw [decide_eq_false (show ¬ ((i:Nat):Int) < ((q.length:Nat):Int) by omega)]
    refine iteF ?_
    have ei:i = q.length:=by omega
    subst ei
    refine (xr0 rfl (xn2 sd _ ⟨rfl,hs2,fun o=>qq sd q st _ (fun b u z=>?_) (s1.free hs1) ⟨o,upd_same⟩ ?_⟩))
    · rw [upd_ne (ne_of_none (s1 _ _ z) hs1)]
      exact s2 _ _ (s1 _ _ z)
    · have:=mid
      rw [List.take_length] at this
      exact this.fin
  case inl =>
  rw [decide_eq_true (show ((i:Nat):Int) < ((q.length:Nat):Int) by exact Int.ofNat_lt.mpr ‹_›)]
  refine iteT ⟨fun σ' H'=>∃ m',m' < R.length - i∧∃ (i:Nat) (q:List Int) (st:Int→Nat) (wt:Int→Int) (x10 x11:Option V),m' = R.length - i∧i≤q.length∧σ' = [some (.ref l),some (.ref rl),some (.int h),some (.ref gl),some (.ref wd),some (.ref ed),some (.ref td),some (.ref sd),some (.ref qd),some (.int (i:Int)),x10,x11] ∧
      Same H1 H'∧H' td = some (.dK (dI R fun r=>.int (wt r)))∧H' sd = some (.dK (dI q fun e=>.int (st e:Int)))∧H' qd = some (.lst (q.map V.int))∧Bf.Mid (wIn hs R) (ownB hs h) R G (fun _ w=>decide (w∈q.take i)) q st wt∧∀ x∈q.drop i,∀ e∈q,st e≤st x+1,fun σ' H' z=>z,?_⟩
  obtain ⟨r,hr'⟩:∃ r,q[i]? = some r:=⟨_,List.getElem?_eq_getElem ci⟩
  obtain ⟨_,er⟩:=List.getElem?_eq_some_iff.mp hr'
  have hrR:r∈R:=mid.sub r (List.mem_of_getElem? hr')
  refine (xr0 rfl (xr0 rfl (xn4 qd _ _ _ ⟨rfl,rfl,SqL.of hq2,atI_nat (v:=V.int r) (by rw [List.getElem?_map,hr']; rfl),?_⟩)))
  refine (xr0 rfl (xr2 rfl rfl ?_))
  have eg:∀ H',Same H1 H'→DGet H' ed (.int r) (some (.ref (ea r))):=fun H' z=>.inl ⟨_,.inl r,.inl (z _ _ hE1),rfl,by rw [val_dI,if_pos hrR]⟩
  refine (xr0 rfl (xr0 rfl (xn2 ed (V.ref (ea r)) ⟨rfl,eg _ s2,ea r,rfl,⟨_,SqL.of (s2 _ _ (hE2 r hrR))⟩,?_⟩)))
  have eq0:q = q.take i++r::q.drop (i+1):=by
    conv=>lhs; rw [← List.take_append_drop i q,List.drop_eq_getElem_cons ci,er]
  have hrt:r∉q.take i:=fun z=>by
    have:=mid.nd
    rw [eq0,List.nodup_append] at this
    exact this.2.2 r z r (by simp) rfl
  have hEn:(ents hs R r).Nodup:=rms.nd.filter _
  refine for_list (K:=K) (a:=ea r) (xs:=(ents hs R r).map V.int) (fun j σ H5=>∃ (q':List Int) (st':Int→Nat) (wt':Int→Int) (x11:Option V),σ = [some (.ref l),some (.ref rl),some (.int h),some (.ref gl),some (.ref wd),some (.ref ed),some (.ref td),some (.ref sd),some (.ref qd),some (.int ((i:Int)+1)),some (.int r),x11] ∧
      Same H1 H5∧H5 td = some (.dK (dI R fun r=>.int (wt' r)))∧H5 sd = some (.dK (dI q' fun e=>.int (st' e:Int)))∧H5 qd = some (.lst (q'.map V.int)) ∧
      Bf.Mid (wIn hs R) (ownB hs h) R G (fun x w=>decide (w∈q.take i) || (decide (w = r) && decide (x∈(ents hs R r).take j))) q' st' wt'∧(∃ t,q' = q.take i++r::t)∧∀ x∈q',st' x≤st' r+1)
    ⟨q,st,wt,x11,rfl,s2,ht2,hs2,hq2,mid.congr (fun x _ w _=>by simp),⟨_,eq0⟩,fun x hx=>hx1 r (by rw [List.drop_eq_getElem_cons ci,er]; simp) x hx⟩ (fun j σ H5 _ ⟨_,_,_,_,_,z,_⟩=>SqL.of (z _ _ (hE2 r hrR))) ?_ ?_
  · rintro j x σ H5 hx5 z207
    refine xe4 z207 fun q' st' wt' x11 y207=>?_
    obtain ⟨rfl,s5,ht5,hs5,hq5,mid,⟨t,eq'⟩,hle⟩:=y207
    rw [List.getElem?_map] at hx5
    obtain ⟨e,ee,exe⟩:=Option.map_eq_some_iff.mp hx5
    subst exe
    obtain ⟨hj,eje⟩:=List.getElem?_eq_some_iff.mp ee
    obtain ⟨heR,hrw⟩:=mem_ents.mp (List.mem_of_getElem? ee)
    have hrq:r∈q':=by rw [eq']; simp
    have lq':q'.length≤R.length:=nodup_le mid.nd mid.sub
    have hne:e∉(ents hs R r).take j:=fun z=>by
      rw [← List.take_append_drop j (ents hs R r),List.nodup_append] at hEn
      refine hEn.2.2 e z e ?_ rfl
      rw [List.drop_eq_getElem_cons hj,eje]
      simp
    have hpf:(decide (r∈q.take i) || (decide (r = r) && decide (e∈(ents hs R r).take j))) = false:=by simp [hrt,hne]
    have tk:(ents hs R r).take (j+1) = (ents hs R r).take j++[e]:=by rw [List.take_succ_eq_append_getElem hj,eje]
    have hcg:∀ x∈R,∀ w∈wIn hs R x,Bf.more (fun x w=>decide (w∈q.take i) || (decide (w = r) && decide (x∈(ents hs R r).take j))) e r x w = (decide (w∈q.take i) || (decide (w = r) && decide (x∈(ents hs R r).take (j+1)))):=fun x _ w _=>by
      rw [tk,Bf.more,Bool.eq_iff_iff]
      simp only [Bool.or_eq_true,Bool.and_eq_true,decide_eq_true_eq,List.mem_append,List.mem_singleton]
      constructor
      · rintro ((a | ⟨a,b⟩) | ⟨a,b⟩)
        · exact .inl a
        · exact .inr ⟨a,.inl b⟩
        · exact .inr ⟨b,.inr a⟩
      · rintro (a | ⟨a,b | b⟩)
        · exact .inl (.inl a)
        · exact .inl (.inr ⟨a,b⟩)
        · exact .inr ⟨b,a⟩
    have hpr:∀ x∈R,∀ w∈wIn hs R x,(decide (w∈q.take i) || (decide (w = r) && decide (x∈(ents hs R r).take j))) = true→st' w≤st' r:=fun x _ w _ p=>by
      simp only [Bool.or_eq_true,Bool.and_eq_true,decide_eq_true_eq] at p
      rcases p with p | p
      · have:=mid.ord
        rw [eq',List.pairwise_append] at this
        exact this.2.2 w p r (by simp)
      · rw [p.1]
        exact Nat.le_refl _
    refine (xr0 rfl (xr0 rfl (xn2 td (V.int (wt' e)) ⟨rfl,.inl ⟨_,.inl e,.inl ht5,rfl,by rw [val_dI,if_pos heR]⟩,xr2 rfl rfl (xr0 rfl (xr0 rfl (xn2 td _ ⟨rfl,DPut.k (k:=Sum.inl e) ht5 (by rw [dI_len]; exact small1000 (by omega)),?_⟩)))⟩)))
    rw [put_old heR]
    have ef:(fun x=>if x = e then V.int (wt' e - 1) else V.int (wt' x)) = fun x=>V.int (if x = e then wt' e - 1 else wt' x):=by
      funext x
      split<;>rfl
    rw [ef]
    have ht6:(upd H5 td (.dK (dI R fun x=>V.int (if x = e then wt' e - 1 else wt' x)))) td = some (.dK (dI R fun x=>V.int (if x = e then wt' e - 1 else wt' x))):=upd_same
    have hs6:(upd H5 td (.dK (dI R fun x=>V.int (if x = e then wt' e - 1 else wt' x)))) sd = some (.dK (dI q' fun e=>.int (st' e:Int))):=by rw [upd_ne nst]; exact hs5
    have hq6:(upd H5 td (.dK (dI R fun x=>V.int (if x = e then wt' e - 1 else wt' x)))) qd = some (.lst (q'.map V.int)):=by rw [upd_ne nqt]; exact hq5
    have s6:Same H1 (upd H5 td (.dK (dI R fun x=>V.int (if x = e then wt' e - 1 else wt' x)))):=fun b u z=>by
      rw [upd_ne (ne_of_none z ht1)]
      exact s5 _ _ z
    generalize upd H5 td (.dK (dI R fun x=>V.int (if x = e then wt' e - 1 else wt' x))) = H6 at ht6 hs6 hq6 s6
    refine (xr0 rfl (xr0 rfl (xn2 sd _ ⟨rfl,DGet.k (k:=Sum.inl e) hs6,_,rfl,?_⟩)))
    rw [val_dI]
    by_cases heq:e∈q'
    · rw [if_pos heq]
      refine iteF (iteF ?_)
      exact (xn4 q' st' _ _ ⟨rfl,s6,ht6,hs6,hq6,(mid.stay hW heR hrw hpf hrq hle (.inl heq)).congr hcg,⟨t,eq'⟩,hle⟩)
    · rw [if_neg heq]
      refine iteT ?_
      obtain ⟨e0,e1⟩:=rms.inn e heR
      obtain ⟨vs,p,qa,el,hat,hp,hq⟩:=rm_at (HallAt.same hA (s1.trans s6)) e0 e1
      refine (xr0 rfl (xr0 rfl (xn4 l vs e _ ⟨rfl,rfl,SqL.of el,hat,p,_,_,_,rfl,rfl,SqT.of hp,(show atI [V.int (rm hs e).1,V.int (rm hs e).2.1,V.ref qa] 0 = some _ from rfl),_,rfl,rfl,_,rfl,ifeq2 (fun z=>?_) (fun z=>?_)⟩)))
      · have ho:ownB hs h e = true:=decide_eq_true z
        refine iteT ?_
        · refine (xr0 rfl (xr0 rfl (xn2 sd (V.int (st' r:Int)) ⟨rfl,.inl ⟨_,.inl r,.inl hs6,rfl,by rw [val_dI,if_pos hrq]⟩,xr2 rfl rfl (xr0 rfl (xr0 rfl (xn2 sd _ ⟨rfl,DPut.k (k:=Sum.inl e) hs6 (by rw [dI_len]; exact small1000 (by omega)),?_⟩)))⟩)))
          rw [put_new heq]
          have ef:(fun x=>if x = e then V.int ((st' r:Int)+1) else V.int (st' x:Int)) = fun x=>V.int (((if x = e then st' r+1 else st' x:Nat)):Int):=by
            funext x
            split<;>simp
          rw [ef]
          have hq7:(upd H6 sd (.dK (dI (q'++[e]) fun x=>V.int (((if x = e then st' r+1 else st' x:Nat)):Int)))) qd = some (.lst (q'.map V.int)):=by
            rw [upd_ne nqs]
            exact hq6
          refine (xr0 rfl ⟨.inl ⟨rfl,_,SqL.of hq7⟩,xr0 rfl (xn3 qd _ _ ⟨rfl,rfl,hq7,small1000 (by rw [List.length_map]; omega),?_⟩)⟩)
          have md:=(mid.push hW heR hrw hpf hrq hle hpr heq (.inl ho)).congr hcg
          have hre:r≠e:=fun z=>heq (z▸hrq)
          refine (xn4 (q'++[e]) _ _ _ ⟨rfl,fun b u z=>?_,?_,?_,?_,md,⟨t++[e],by rw [eq']; simp⟩,fun x hx=>?_⟩)
          · rw [upd_ne (ne_of_none z hq1),upd_ne (ne_of_none z hs1)]
            exact s6 _ _ z
          · rw [upd_ne nqt.symm,upd_ne nst.symm]
            exact ht6
          · rw [upd_ne nqs.symm,upd_same]
          · rw [upd_same,List.map_append]
            rfl
          · simp only [if_neg hre]
            by_cases z:x = e
            · simp only [if_pos z]
              exact Nat.le_refl _
            · simp only [if_neg z]
              exact hle x ((List.mem_append.mp hx).resolve_right fun y=>z (List.mem_singleton.mp y))
      · have ho:ownB hs h e = false:=decide_eq_false z
        refine (xr0 rfl (xr0 rfl (xn2 td (V.int (wt' e - 1)) ⟨rfl,.inl ⟨_,.inl e,.inl ht6,rfl,by rw [val_dI,if_pos heR,if_pos rfl]⟩,rfl,xr0 rfl (ifeq2 (fun z2=>?_) (fun z2=>?_))⟩)))
        · skip
          · refine (xr0 rfl (xr0 rfl (xn2 sd (V.int (st' r:Int)) ⟨rfl,.inl ⟨_,.inl r,.inl hs6,rfl,by rw [val_dI,if_pos hrq]⟩,xr2 rfl rfl (xr0 rfl (xr0 rfl (xn2 sd _ ⟨rfl,DPut.k (k:=Sum.inl e) hs6 (by rw [dI_len]; exact small1000 (by omega)),?_⟩)))⟩)))
            rw [put_new heq]
            have ef:(fun x=>if x = e then V.int ((st' r:Int)+1) else V.int (st' x:Int)) = fun x=>V.int (((if x = e then st' r+1 else st' x:Nat)):Int):=by
              funext x
              split<;>simp
            rw [ef]
            have hq7:(upd H6 sd (.dK (dI (q'++[e]) fun x=>V.int (((if x = e then st' r+1 else st' x:Nat)):Int)))) qd = some (.lst (q'.map V.int)):=by
              rw [upd_ne nqs]
              exact hq6
            refine (xr0 rfl ⟨.inl ⟨rfl,_,SqL.of hq7⟩,xr0 rfl (xn3 qd _ _ ⟨rfl,rfl,hq7,small1000 (by rw [List.length_map]; omega),?_⟩)⟩)
            have md:=(mid.push hW heR hrw hpf hrq hle hpr heq (.inr (by exact z2))).congr hcg
            have hre:r≠e:=fun z=>heq (z▸hrq)
            refine (xn4 (q'++[e]) _ _ _ ⟨rfl,fun b u z=>?_,?_,?_,?_,md,⟨t++[e],by rw [eq']; simp⟩,fun x hx=>?_⟩)
            · rw [upd_ne (ne_of_none z hq1),upd_ne (ne_of_none z hs1)]
              exact s6 _ _ z
            · rw [upd_ne nqt.symm,upd_ne nst.symm]
              exact ht6
            · rw [upd_ne nqs.symm,upd_same]
            · rw [upd_same,List.map_append]
              rfl
            · simp only [if_neg hre]
              by_cases z:x = e
              · simp only [if_pos z]
                exact Nat.le_refl _
              · simp only [if_neg z]
                exact hle x ((List.mem_append.mp hx).resolve_right fun y=>z (List.mem_singleton.mp y))
        · exact (xn4 q' st' _ _ ⟨rfl,s6,ht6,hs6,hq6,(mid.stay hW heR hrw hpf hrq hle (.inr ⟨ho,z2⟩)).congr hcg,⟨t,eq'⟩,hle⟩)
  · rintro σ H5 z324
    refine xe4 z324 fun q' st' wt' x11 y324=>?_
    obtain ⟨rfl,s5,ht5,hs5,hq5,mid5,⟨t,eq'⟩,hle⟩:=y324
    have tki:q'.take (i+1) = q.take i++[r]:=by
      have hl:(q.take i++[r]).length = i+1:=by rw [List.length_append,List.length_take]; simp; omega
      have e2:q' = (q.take i++[r])++t:=by rw [eq']; simp
      rw [e2,← hl,List.take_left]
    have dri:q'.drop (i+1) = t:=by
      have hl:(q.take i++[r]).length = i+1:=by rw [List.length_append,List.length_take]; simp; omega
      have e2:q' = (q.take i++[r])++t:=by rw [eq']; simp
      rw [e2,← hl,List.drop_left]
    refine ⟨R.length - (i+1),by omega,i+1,q',st',wt',some (.int r),x11,rfl,?_,?_,s5,ht5,hs5,hq5,mid5.congr (fun x hx w hw=>?_),fun x hx e he=>?_⟩
    · rw [eq',List.length_append,List.length_take,List.length_cons]
      omega
    · rw [show (((i+1:Nat)):Int) = (i:Int)+1 by exact rfl]
    · rw [tki,List.length_map,List.take_length,Bool.eq_iff_iff]
      simp only [Bool.or_eq_true,Bool.and_eq_true,decide_eq_true_eq,List.mem_append,List.mem_singleton]
      constructor
      · rintro (a | ⟨a,b⟩)
        · exact .inl a
        · exact .inr a
      · rintro (a | a)
        · exact .inl a
        · exact .inr ⟨a,mem_ents.mpr ⟨hx,a▸hw⟩⟩
    · rw [dri] at hx
      have:=mid5.ord
      rw [eq',List.pairwise_append,List.pairwise_cons] at this
      have h1:=this.2.1.1 x hx
      have h2:=hle e he
      omega
end
end Law

namespace Zi
open Bf
def inn (ways:Int→List Int) (R:List Int) (r:Int):List Int:=(ways r).filter fun w=>decide (w∈R)
theorem mem_inn {ways:Int→List Int} {R:List Int} {r w:Int}:w∈inn ways R r↔w∈ways r∧w∈R:=by
  unfold inn
  rw [List.mem_filter,decide_eq_true_eq]
def Live (ways:Int→List Int) (R:List Int):Prop:=∀ r∈R,inn ways R r≠[]
def left (R L:List Int):List Int:=R.filter fun r=>decide (r∉L)
theorem mem_left {R L:List Int} {r:Int}:r∈left R L↔r∈R∧r∉L:=by
  unfold left
  rw [List.mem_filter,decide_eq_true_eq]
inductive Rch (E:Int→Int→Prop) (b:Int→Prop):Int→Int→Prop
  | one {r s:Int}:E r s→b s→Rch E b r s
  | step {r t s:Int}:Rch E b r t→E t s→b s→Rch E b r s
theorem Rch.last {E:Int→Int→Prop} {b:Int→Prop} {r s:Int} (h:Rch E b r s):b s:=by
  cases h with
  | one _ h=>exact h
  | step _ _ h=>exact h
section
variable (ways:Int→List Int) (hd rk:Int→Int)
def Edg (R L:List Int) (j:Int) (mo:Int→Option Int) (t s:Int):Prop:=t∈L∧((hd t = j∧mo t = some s)∨(hd t≠j∧s∈inn ways R t))
def Stp (R:List Int) (ha:Int→Int) (mo:Int→Option Int) (t s:Int):Prop:=t∈R∧((hd t = ha t∧mo t = some s)∨(hd t≠ha t∧s∈inn ways R t))
structure Sol (R:List Int) (ha:Int→Int) (mo:Int→Option Int):Prop where
  bit:∀ r∈R,ha r = 0∨ha r = 1
  own:∀ r∈R,hd r = ha r→∃ m,mo r = some m∧m∈inn ways R r∧ha m = ha r
  oth:∀ r∈R,hd r≠ha r→mo r = none∧∀ w∈inn ways R r,ha w = ha r
  cyc:∀ r∈R,rk r % 2≠ha r→¬ Rch (Stp ways hd R ha mo) (fun s=>rk s≤rk r) r r
structure Part (R L:List Int) (j:Int) (mo:Int→Option Int):Prop where
  sub:∀ r∈L,r∈R
  bit:j = 0∨j = 1
  own:∀ r∈L,hd r = j→∃ m,mo r = some m∧m∈inn ways R r∧m∈L
  oth:∀ r∈L,hd r≠j→mo r = none∧∀ w∈inn ways R r,w∈L
  lef:∀ r∈R,r∉L→hd r = j→∀ w∈inn ways R r,w∉L
  cyc:∀ r∈L,rk r % 2≠j→¬ Rch (Edg ways hd R L j mo) (fun s=>rk s≤rk r) r r
  liv:Live ways (left R L)
end
section
variable {ways:Int→List Int} {hd rk:Int→Int} {R L:List Int} {j:Int} {mo:Int→Option Int}
theorem Sol.nil {ha:Int→Int}:Sol ways hd rk [] ha mo:=⟨fun r h=>by simp at h,fun r h=>by simp at h,fun r h=>by simp at h,fun r h=>by simp at h⟩
theorem Part.join (hb:∀ r∈R,hd r = 0∨hd r = 1) (h:Part ways hd rk R L j mo) {ha':Int→Int} {mo':Int→Option Int} (s:Sol ways hd rk (left R L) ha' mo') :
    Sol ways hd rk R (fun r=>if r∈L then j else ha' r) (fun r=>if r∈L then mo r else mo' r):=by
  have lw:∀ r∈left R L,∀ w∈inn ways R r,w∉L→w∈inn ways (left R L) r:=fun r _ w hw hn=>by
    obtain ⟨a,b⟩:=mem_inn.mp hw
    exact mem_inn.mpr ⟨a,mem_left.mpr ⟨b,hn⟩⟩
  refine ⟨fun r hr=>?_,fun r hr ho=>?_,fun r hr ho=>?_,fun r hr hp hc=>?_⟩
  · by_cases z:r∈L
    · simp only [if_pos z]; exact h.bit
    · simp only [if_neg z]; exact s.bit r (mem_left.mpr ⟨hr,z⟩)
  · by_cases z:r∈L
    · simp only [if_pos z] at ho ⊢
      obtain ⟨m,e,a,b⟩:=h.own r z ho
      exact ⟨m,e,a,by rw [if_pos b]⟩
    · simp only [if_neg z] at ho ⊢
      obtain ⟨m,e,a,b⟩:=s.own r (mem_left.mpr ⟨hr,z⟩) ho
      obtain ⟨a1,a2⟩:=mem_inn.mp a
      obtain ⟨a3,a4⟩:=mem_left.mp a2
      exact ⟨m,e,mem_inn.mpr ⟨a1,a3⟩,by rw [if_neg a4]; exact b⟩
  · by_cases z:r∈L
    · simp only [if_pos z] at ho ⊢
      obtain ⟨e,a⟩:=h.oth r z ho
      exact ⟨e,fun w hw=>by rw [if_pos (a w hw)]⟩
    · simp only [if_neg z] at ho ⊢
      have hl:=mem_left.mpr ⟨hr,z⟩
      obtain ⟨e,a⟩:=s.oth r hl ho
      refine ⟨e,fun w hw=>?_⟩
      by_cases y:w∈L
      · rw [if_pos y]
        by_cases hj:hd r = j
        · exact absurd y (h.lef r hr z hj w hw)
        · have b1:=h.bit
          have b2:=s.bit r hl
          have b3:=hb r hr
          omega
      · rw [if_neg y]
        exact a w (lw r hl w hw y)
  · by_cases z:r∈L
    · simp only [if_pos z] at hp
      have go:∀ x,Rch (Stp ways hd R (fun r=>if r∈L then j else ha' r) (fun r=>if r∈L then mo r else mo' r)) (fun s=>rk s≤rk r) r x→x∈L∧Rch (Edg ways hd R L j mo) (fun s=>rk s≤rk r) r x:=by
        have one:∀ t x,t∈L→Stp ways hd R (fun r=>if r∈L then j else ha' r) (fun r=>if r∈L then mo r else mo' r) t x→x∈L∧Edg ways hd R L j mo t x:=fun t x ht ⟨_,e⟩=>by
          simp only [if_pos ht] at e
          rcases e with ⟨e1,e2⟩ | ⟨e1,e2⟩
          · obtain ⟨m,em,_,hm⟩:=h.own t ht e1
            rw [em] at e2
            cases e2
            exact ⟨hm,ht,.inl ⟨e1,em⟩⟩
          · exact ⟨(h.oth t ht e1).2 x e2,ht,.inr ⟨e1,e2⟩⟩
        intro x hx
        induction hx with
        | one e b =>
          obtain ⟨a1,a2⟩:=one _ _ z e
          exact ⟨a1,.one a2 b⟩
        | step _ e b ih =>
          obtain ⟨a1,a2⟩:=one _ _ ih.1 e
          exact ⟨a1,.step ih.2 a2 b⟩
      exact h.cyc r z hp (go r hc).2
    · simp only [if_neg z] at hp
      have hl:=mem_left.mpr ⟨hr,z⟩
      have go:∀ x,Rch (Stp ways hd R (fun r=>if r∈L then j else ha' r) (fun r=>if r∈L then mo r else mo' r)) (fun s=>rk s≤rk r) r x→x∈L∨(x∈left R L∧Rch (Stp ways hd (left R L) ha' mo') (fun s=>rk s≤rk r) r x):=by
        have inL:∀ t x,t∈L→Stp ways hd R (fun r=>if r∈L then j else ha' r) (fun r=>if r∈L then mo r else mo' r) t x→x∈L:=fun t x ht ⟨_,e⟩=>by
          simp only [if_pos ht] at e
          rcases e with ⟨e1,e2⟩ | ⟨e1,e2⟩
          · obtain ⟨m,em,_,hm⟩:=h.own t ht e1
            rw [em] at e2
            cases e2
            exact hm
          · exact (h.oth t ht e1).2 x e2
        have out:∀ t x,t∈left R L→Stp ways hd R (fun r=>if r∈L then j else ha' r) (fun r=>if r∈L then mo r else mo' r) t x→x∈L∨(x∈left R L∧Stp ways hd (left R L) ha' mo' t x):=fun t x ht ⟨_,e⟩=>by
          have hn:=(mem_left.mp ht).2
          simp only [if_neg hn] at e
          rcases e with ⟨e1,e2⟩ | ⟨e1,e2⟩
          · obtain ⟨m,em,hm,_⟩:=s.own t ht e1
            rw [em] at e2
            cases e2
            exact .inr ⟨(mem_inn.mp hm).2,ht,.inl ⟨e1,em⟩⟩
          · by_cases y:x∈L
            · exact .inl y
            · have:=lw t ht x e2 y
              exact .inr ⟨(mem_inn.mp this).2,ht,.inr ⟨e1,this⟩⟩
        intro x hx
        induction hx with
        | one e b =>
          rcases out _ _ hl e with a | ⟨a1,a2⟩
          · exact .inl a
          · exact .inr ⟨a1,.one a2 b⟩
        | step _ e b ih =>
          rcases ih with a | ⟨a1,a2⟩
          · exact .inl (inL _ _ a e)
          · rcases out _ _ a1 e with c | ⟨c1,c2⟩
            · exact .inl c
            · exact .inr ⟨c1,.step a2 c2 b⟩
      rcases go r hc with a | ⟨_,a⟩
      · exact z a
      · exact s.cyc r hl hp a
section
variable {i:Int} {G q:List Int} {st:Int→Nat}
def ownH (hd:Int→Int) (i:Int) (e:Int):Bool:=decide (hd e = i)
theorem drawn_out (d:Drawn (inn ways R) (ownH hd i) R G q st) {r:Int} (hr:r∈R) (hn:r∉q):(hd r = i→∀ w∈inn ways R r,w∉q)∧(hd r≠i→inn ways R r≠[]→∃ w∈inn ways R r,w∉q):=by
  have hg:r∉G:=fun z=>hn (d.g0 r z).1
  refine ⟨fun ho w hw hq=>hn ((d.memO r hr hg (decide_eq_true ho)).mpr ⟨w,hw,hq⟩),fun ho hne=>?_⟩
  refine Classical.byContradiction fun z=>hn ((d.memX r hr hg (decide_eq_false ho)).mpr ⟨hne,fun w hw=>Classical.byContradiction fun y=>z ⟨w,hw,y⟩⟩)
theorem left_live (d:Drawn (inn ways R) (ownH hd i) R G q st) (lv:Live ways R):Live ways (left R q):=fun r hr=>by
  obtain ⟨a,b⟩:=mem_left.mp hr
  obtain ⟨o1,o2⟩:=drawn_out d a b
  have:∃ w∈inn ways R r,w∉q:=by
    by_cases ho:hd r = i
    · obtain ⟨w,hw⟩:=List.exists_mem_of_ne_nil _ (lv r a)
      exact ⟨w,hw,o1 ho w hw⟩
    · exact o2 ho (lv r a)
  obtain ⟨w,hw,hn⟩:=this
  obtain ⟨w1,w2⟩:=mem_inn.mp hw
  exact List.ne_nil_of_mem (mem_inn.mpr ⟨w1,mem_left.mpr ⟨w2,hn⟩⟩)
def Leads (ways:Int→List Int) (hd:Int→Int) (R:List Int) (i:Int) (q:List Int) (st:Int→Nat) (mo:Int→Option Int):Prop :=
  ∀ e∈q,(hd e≠i→mo e = none)∧(hd e = i→∃ m,mo e = some m∧m∈inn ways R e∧(st e≠0→m∈q∧st m+1 = st e))
theorem nearer (d:Drawn (inn ways R) (ownH hd i) R G q st) {mo:Int→Option Int} (ld:Leads ways hd R i q st mo) {t s:Int} (ht:t∈q) (hg:t∉G) (e:(hd t = i∧mo t = some s)∨(hd t≠i∧s∈inn ways R t)):s∈q∧st s < st t:=by
  have h0:st t≠0:=fun z=>hg (d.g1 t ht z)
  rcases e with ⟨e1,e2⟩ | ⟨e1,e2⟩
  · obtain ⟨m,em,_,hm⟩:=(ld t ht).2 e1
    rw [em] at e2
    cases e2
    obtain ⟨a,b⟩:=hm h0
    exact ⟨a,by exact Nat.le_of_eq ‹_›⟩
  · obtain ⟨a,b⟩:=(d.stX t ht hg (decide_eq_false e1)).2 s e2
    exact ⟨a,by assumption⟩
theorem all_won {top:Int} {ha:Int→Int} {mi mn:Int→Option Int} (hi:i = 0∨i = 1) (ht:top % 2 = i) (hmax:∀ r∈R,rk r≤top) (hG:∀ r,r∈G↔r∈R∧rk r = top) (d:Drawn (inn ways R) (ownH hd i) R G q st) (ld:Leads ways hd R i q st mn)
    (s:Sol ways hd rk (left R q) ha mi) (al:∀ r∈left R q,ha r = i):Part ways hd rk R R i (fun r=>if r∈q then mn r else mi r):=by
  refine ⟨fun r h=>h,hi,fun r hr ho=>?_,fun r hr ho=>?_,fun r hr hn=>absurd hr hn,fun r hr hp hc=>?_,fun r hr=>absurd (mem_left.mp hr).1 (mem_left.mp hr).2⟩
  · by_cases z:r∈q
    · simp only [if_pos z]
      obtain ⟨m,e,a,_⟩:=(ld r z).2 ho
      exact ⟨m,e,a,(mem_inn.mp a).2⟩
    · simp only [if_neg z]
      have hl:=mem_left.mpr ⟨hr,z⟩
      obtain ⟨m,e,a,_⟩:=s.own r hl (by rw [al r hl]; exact ho)
      obtain ⟨a1,a2⟩:=mem_inn.mp a
      have a3:=(mem_left.mp a2).1
      exact ⟨m,e,mem_inn.mpr ⟨a1,a3⟩,a3⟩
  · refine ⟨?_,fun w hw=>(mem_inn.mp hw).2⟩
    by_cases z:r∈q
    · simp only [if_pos z]
      exact (ld r z).1 ho
    · simp only [if_neg z]
      have hl:=mem_left.mpr ⟨hr,z⟩
      exact (s.oth r hl (by rw [al r hl]; exact ho)).1
  · have hlt:rk r < top:=by
      have:=hmax r hr
      have ne:rk r≠top:=fun e=>hp (by rw [e]; exact ht)
      omega
    have ng:∀ x,rk x≤rk r→x∉G:=fun x hx z=>by
      have:=((hG x).mp z).2
      omega
    by_cases z:r∈q
    · have go:∀ x,Rch (Edg ways hd R R i (fun r=>if r∈q then mn r else mi r)) (fun s=>rk s≤rk r) r x→x∈q∧st x < st r:=by
        intro x hx
        induction hx with
        | one e b =>
          obtain ⟨_,e⟩:=e
          simp only [if_pos z] at e
          exact nearer d ld z (ng r (Int.le_refl _)) e
        | step w e b ih =>
          obtain ⟨_,e⟩:=e
          simp only [if_pos ih.1] at e
          obtain ⟨a1,a2⟩:=nearer d ld ih.1 (ng _ w.last) e
          exact ⟨a1,by omega⟩
      have:=(go r hc).2
      omega
    · have hl:=mem_left.mpr ⟨hr,z⟩
      have inq:∀ t x,t∈q→rk t≤rk r→Edg ways hd R R i (fun r=>if r∈q then mn r else mi r) t x→x∈q:=fun t x h1 h2 ⟨_,e⟩=>by
        simp only [if_pos h1] at e
        exact (nearer d ld h1 (ng t h2) e).1
      have out:∀ t x,t∈left R q→Edg ways hd R R i (fun r=>if r∈q then mn r else mi r) t x→x∈q∨(x∈left R q∧Stp ways hd (left R q) ha mi t x):=fun t x h1 ⟨hR,e⟩=>by
        have hn:=(mem_left.mp h1).2
        simp only [if_neg hn] at e
        rcases e with ⟨e1,e2⟩ | ⟨e1,e2⟩
        · obtain ⟨m,em,hm,_⟩:=s.own t h1 (by rw [al t h1]; exact e1)
          rw [em] at e2
          cases e2
          exact .inr ⟨(mem_inn.mp hm).2,h1,.inl ⟨by rw [al t h1]; exact e1,em⟩⟩
        · by_cases y:x∈q
          · exact .inl y
          · obtain ⟨w1,w2⟩:=mem_inn.mp e2
            have hx:=mem_left.mpr ⟨w2,y⟩
            exact .inr ⟨hx,h1,.inr ⟨by rw [al t h1]; exact e1,mem_inn.mpr ⟨w1,hx⟩⟩⟩
      have go:∀ x,Rch (Edg ways hd R R i (fun r=>if r∈q then mn r else mi r)) (fun s=>rk s≤rk r) r x→x∈q∨(x∈left R q∧Rch (Stp ways hd (left R q) ha mi) (fun s=>rk s≤rk r) r x):=by
        intro x hx
        induction hx with
        | one e b =>
          rcases out _ _ hl e with a | ⟨a1,a2⟩
          · exact .inl a
          · exact .inr ⟨a1,.one a2 b⟩
        | step w e b ih =>
          rcases ih with a | ⟨a1,a2⟩
          · exact .inl (inq _ _ a w.last e)
          · rcases out _ _ a1 e with c | ⟨c1,c2⟩
            · exact .inl c
            · exact .inr ⟨c1,.step a2 c2 b⟩
      rcases go r hc with a | ⟨_,a⟩
      · exact z a
      · exact s.cyc r hl (by rw [al r hl]; exact hp) a
theorem some_lost {ha:Int→Int} {mi mn:Int→Option Int} {near lost:List Int} {sn:Int→Nat} (hb:∀ r∈R,hd r = 0∨hd r = 1) (lv:Live ways R) (hi:i = 0∨i = 1) (dn:Drawn (inn ways R) (ownH hd i) R G near sn) (s:Sol ways hd rk (left R near) ha mi)
    (hl:∀ r,r∈lost↔r∈left R near∧ha r≠i) (d:Drawn (inn ways R) (ownH hd (1 - i)) R lost q st) (ld:Leads ways hd R (1 - i) q st mn):Part ways hd rk R q (1 - i) (fun r=>if r∈lost then mi r else mn r):=by
  have hj:∀ r∈lost,ha r = 1 - i:=fun r hr=>by
    obtain ⟨a,b⟩:=(hl r).mp hr
    have:=s.bit r a
    omega
  have mk:∀ r,r∈left R near→ha r = 1 - i→r∈lost:=fun r a b=>(hl r).mpr ⟨a,by omega⟩
  have stay:∀ t x,t∈lost→((hd t = 1 - i∧mi t = some x)∨(hd t≠1 - i∧x∈inn ways R t))→x∈lost∧Stp ways hd (left R near) ha mi t x:=fun t x ht e=>by
    obtain ⟨tl,_⟩:=(hl t).mp ht
    have hjt:=hj t ht
    rcases e with ⟨e1,e2⟩ | ⟨e1,e2⟩
    · have eq:hd t = ha t:=by rw [hjt]; exact e1
      obtain ⟨m,em,hm,hh⟩:=s.own t tl eq
      rw [em] at e2
      cases e2
      exact ⟨mk _ (mem_inn.mp hm).2 (by rw [hh]; exact hjt),tl,.inl ⟨eq,em⟩⟩
    · obtain ⟨tR,tn⟩:=mem_left.mp tl
      have ht2:=hb t tR
      have hti:hd t = i:=by omega
      have hx:=(drawn_out dn tR tn).1 hti x e2
      obtain ⟨x1,x2⟩:=mem_inn.mp e2
      have xl:=mem_left.mpr ⟨x2,hx⟩
      have xi:=mem_inn.mpr ⟨x1,xl⟩
      have ne:hd t≠ha t:=by rw [hjt]; exact e1
      have hh:=(s.oth t tl ne).2 x xi
      exact ⟨mk x xl (by rw [hh]; exact hjt),tl,.inr ⟨ne,xi⟩⟩
  refine ⟨d.sub,by omega,fun r hr ho=>?_,fun r hr ho=>?_,fun r hr hn ho=>(drawn_out d hr hn).1 ho,fun r hr hp hc=>?_,left_live d lv⟩
  · by_cases z:r∈lost
    · simp only [if_pos z]
      obtain ⟨tl,_⟩:=(hl r).mp z
      obtain ⟨m,em,hm,hh⟩:=s.own r tl (by rw [hj r z]; exact ho)
      obtain ⟨m1,m2⟩:=mem_inn.mp hm
      exact ⟨m,em,mem_inn.mpr ⟨m1,(mem_left.mp m2).1⟩,(d.g0 m (mk m m2 (by rw [hh]; exact hj r z))).1⟩
    · simp only [if_neg z]
      obtain ⟨m,em,hm,hs⟩:=(ld r hr).2 ho
      exact ⟨m,em,hm,(hs fun e=>z (d.g1 r hr e)).1⟩
  · by_cases z:r∈lost
    · simp only [if_pos z]
      obtain ⟨tl,_⟩:=(hl r).mp z
      exact ⟨(s.oth r tl (by rw [hj r z]; exact ho)).1,fun w hw=>(d.g0 w (stay r w z (.inr ⟨ho,hw⟩)).1).1⟩
    · simp only [if_neg z]
      exact ⟨(ld r hr).1 ho,fun w hw=>((d.stX r hr z (decide_eq_false ho)).2 w hw).1⟩
  · by_cases z:r∈lost
    · have go:∀ x,Rch (Edg ways hd R q (1 - i) (fun r=>if r∈lost then mi r else mn r)) (fun s=>rk s≤rk r) r x→x∈lost∧Rch (Stp ways hd (left R near) ha mi) (fun s=>rk s≤rk r) r x:=by
        intro x hx
        induction hx with
        | one e b =>
          obtain ⟨_,e⟩:=e
          simp only [if_pos z] at e
          obtain ⟨a1,a2⟩:=stay _ _ z e
          exact ⟨a1,.one a2 b⟩
        | step w e b ih =>
          obtain ⟨_,e⟩:=e
          simp only [if_pos ih.1] at e
          obtain ⟨a1,a2⟩:=stay _ _ ih.1 e
          exact ⟨a1,.step ih.2 a2 b⟩
      exact s.cyc r ((hl r).mp z).1 (by rw [hj r z]; exact hp) (go r hc).2
    · have go:∀ x,Rch (Edg ways hd R q (1 - i) (fun r=>if r∈lost then mi r else mn r)) (fun s=>rk s≤rk r) r x→x∈q∧st x < st r:=by
        have r0:0 < st r:=Nat.pos_of_ne_zero fun e=>z (d.g1 r hr e)
        intro x hx
        induction hx with
        | one e b =>
          obtain ⟨_,e⟩:=e
          simp only [if_neg z] at e
          exact nearer d ld hr z e
        | step w e b ih =>
          rename_i t x
          obtain ⟨_,e⟩:=e
          by_cases y:t∈lost
          · simp only [if_pos y] at e
            have:=d.g0 x (stay _ _ y e).1
            exact ⟨this.1,by omega⟩
          · simp only [if_neg y] at e
            obtain ⟨a1,a2⟩:=nearer d ld ih.1 y e
            exact ⟨a1,by omega⟩
      have:=(go r hc).2
      omega
end
theorem Sol.congr {ha ha':Int→Int} {mo mo':Int→Option Int} (s:Sol ways hd rk R ha mo) (e1:∀ r∈R,ha r = ha' r) (e2:∀ r∈R,mo r = mo' r):Sol ways hd rk R ha' mo':=by
  refine ⟨fun r hr=>by rw [← e1 r hr]; exact s.bit r hr,fun r hr ho=>?_,fun r hr ho=>?_,fun r hr hp hc=>?_⟩
  · obtain ⟨m,a,b,c⟩:=s.own r hr (by rw [e1 r hr]; exact ho)
    exact ⟨m,by rw [← e2 r hr]; exact a,b,by rw [← e1 r hr,← e1 m (mem_inn.mp b).2]; exact c⟩
  · obtain ⟨a,b⟩:=s.oth r hr (by rw [e1 r hr]; exact ho)
    exact ⟨by rw [← e2 r hr]; exact a,fun w hw=>by rw [← e1 r hr,← e1 w (mem_inn.mp hw).2]; exact b w hw⟩
  · refine s.cyc r hr (by rw [e1 r hr]; exact hp) ?_
    have one:∀ t x,Stp ways hd R ha' mo' t x→Stp ways hd R ha mo t x:=fun t x ⟨h,e⟩=>⟨h,by rw [e1 t h,e2 t h]; exact e⟩
    have go:∀ x,Rch (Stp ways hd R ha' mo') (fun s=>rk s≤rk r) r x→Rch (Stp ways hd R ha mo) (fun s=>rk s≤rk r) r x:=by
      intro x hx
      induction hx with
      | one e b=>exact .one (one _ _ e) b
      | step w e b ih=>exact .step ih (one _ _ e) b
    exact go r hc
def Ext (ways:Int→List Int) (hd rk:Int→Int) (R L:List Int) (ha:Int→Int) (mo:Int→Option Int):Prop:=∀ ha' mo',Sol ways hd rk L ha' mo'→Sol ways hd rk R (fun r=>if r∈L then ha' r else ha r) (fun r=>if r∈L then mo' r else mo r)
theorem Ext.start (ha:Int→Int) (mo:Int→Option Int):Ext ways hd rk R R ha mo:=fun ha' mo' s=>s.congr (fun r hr=>by rw [if_pos hr]) (fun r hr=>by rw [if_pos hr])
theorem Ext.step {ha:Int→Int} {mo mp:Int→Option Int} {L Pt:List Int} (hb:∀ r∈L,hd r = 0∨hd r = 1) (e:Ext ways hd rk R L ha mo) (p:Part ways hd rk L Pt j mp) :
    Ext ways hd rk R (left L Pt) (fun r=>if r∈Pt then j else ha r) (fun r=>if r∈Pt then mp r else mo r):=fun ha' mo' s=>by
  refine (e _ _ (p.join hb s)).congr (fun r _=>?_) (fun r _=>?_)
  · dsimp only
    by_cases z:r∈L
    · by_cases y:r∈Pt
      · rw [if_pos z,if_pos y,if_neg (fun h=>(mem_left.mp h).2 y),if_pos y]
      · rw [if_pos z,if_neg y,if_pos (mem_left.mpr ⟨z,y⟩)]
    · rw [if_neg z,if_neg (fun h=>z (mem_left.mp h).1),if_neg (fun h=>z (p.sub r h))]
  · dsimp only
    by_cases z:r∈L
    · by_cases y:r∈Pt
      · rw [if_pos z,if_pos y,if_neg (fun h=>(mem_left.mp h).2 y),if_pos y]
      · rw [if_pos z,if_neg y,if_pos (mem_left.mpr ⟨z,y⟩)]
    · rw [if_neg z,if_neg (fun h=>z (mem_left.mp h).1),if_neg (fun h=>z (p.sub r h))]
theorem Ext.done {ha:Int→Int} {mo:Int→Option Int} (e:Ext ways hd rk R [] ha mo):Sol ways hd rk R ha mo:=by
  have:=e ha mo Sol.nil
  simpa using this
end
end Zi

namespace L2
open PySem
def mvV:Option Int→V
  | none=>.non
  | some m=>.int m
end L2
namespace Law
open PySem L2
section
seal PA PE PS PSs PT PI PG PGs PIf
variable {P:Program} {w:World} {K:PySem.W.Frag} {mg:Str→Option Value} {base:Heap} {f g:Addr} {fd gd:FuncData}
def spMove (K:PySem.W.Frag):Sp:=fun vs H Q _=>∃ (r:Int) (wl sd:Addr) (ws q:List Int) (st:Int→Nat),vs = [.int r,.ref wl,.ref sd]∧SqL K H wl (ws.map V.int)∧StepsAt H sd q st∧r∈q∧ws≠[]∧ws.length≤100∧(st r≠0→∃ w∈ws,w∈q∧st w+1 = st r) ∧
  ∀ m H',m∈ws→(st r≠0→m∈q∧st m+1 = st r)→Same H H'→Q (.int m) H'
theorem scMove:FnScope ["room","ways","steps"] ["room","ways","steps"] (defScope sMove):=⟨rfl,rfl,rfl,by decide +kernel,rfl,by decide +kernel,by decide +kernel⟩
theorem ndWSR:(["way","steps","room"]:List Str).Nodup:=by decide +kernel
theorem ok_move (F:Fun K "move_from" "move_from" sMove f fd):FnOk P w K mg base CX0 1 f fd ["room","ways","steps"] (spMove K):=by
  refine F.ok scMove (fun vs H Q E h=>?_) (fun cdv A outer s H vs Q E hr h=>?_)
  · refine xe6 h fun r wl sd ws q st y23=>?_
    obtain ⟨rfl,_⟩:=y23
    rfl
  refine xe6 h fun r wl sd ws q st y25=>?_
  obtain ⟨rfl,hW,⟨o,hst⟩,hrq,hne,hl,hex,qq⟩:=y25
  have hu:=hu_of hr
  refine ⟨_,pss_cons (ps_if (pt_cmpR op_eq (pe_dget hu (pv 2) (pv 0) (fun _ _=>rfl)) pe_int (nomark _)) (pss_one (ps_ret (pe_ix ix_list (pv 1) pe_int (fun _ _=>rfl)))) pss_nil)
    (pss_one (ps_ret (pe_ix ix_list (pe_comp (N:=["way","steps","room"]) (capt:=[none,some 2,some 0]) rfl (pi_list (pv 1)) rfl (by repeat (first | exact .nil | refine .cons rfl ?_))
        (by repeat (first | exact .nil | refine .skip (by decide) (by decide) ?_ | refine .free ⟨_,rfl⟩ ?_)) (.tgt (.var rfl (.inl rfl) ⟨_,rfl⟩ (.inl rfl) (.var rfl (.inl rfl) ⟨_,rfl⟩ (.inl rfl) .nil)))
        (fun _ _ _ _ _=>pg_name (i:=0) ndWSR rfl (Or.inl rfl)) (fun _ _ _ _ _=>pif_one (pt_cmpR op_eq (pe_dget1 hu (pv 1) (pv 0) ⟨rfl,rfl,rfl,rfl⟩) (pe_op op_sub (pe_dget hu (pv 1) (pv 2) (fun _ _=>rfl)) pe_int) (nomark _)))
        (fun _ _ _ _ _=>pv 0)) pe_int (fun _ _=>rfl)))),?_⟩
  first | dsimp only [nxK,nxP,nxW] | skip
  have g0:∀ H',Same H H'→DGet H' sd (.int r) (some (.int (st r:Int))):=fun H' z=>.inl ⟨_,.inl r,.inr ⟨o,z _ _ hst⟩,rfl,by rw [val_dI,if_pos hrq]⟩
  refine (xr0 rfl (xr0 rfl (xn2 sd (V.int (st r:Int)) ⟨rfl,g0 H (Same.refl H),rfl,xr0 rfl (ifeq2 (fun z=>?_) (fun z=>?_))⟩)))
  · obtain ⟨w0,hw0⟩:∃ w0,ws[0]? = some w0:=⟨_,List.getElem?_eq_getElem (List.length_pos_iff.mpr hne)⟩
    refine (xr0 rfl (xn4 wl _ _ _ ⟨rfl,rfl,hW,atI_nat (j:=0) (v:=V.int w0) (by rw [List.getElem?_map,hw0]; rfl),qq w0 H (List.mem_of_getElem? hw0) (fun e=>absurd (show st r = 0 by omega) e) (Same.refl H)⟩))
  · have hz:st r≠0:=fun e=>z (by omega)
    refine (xr0 rfl ⟨wl,rfl,⟨_,hW⟩,?_⟩)
    refine comp_list (K:=K) (a:=wl) (xs:=ws.map V.int) (fun D i ys H2=>Same H H2∧H D = none∧H2 D = some (.lst ys)∧ys = ((ws.take i).filter fun w=>decide (w∈q∧st w+1 = st r)).map V.int) ?_ ?_ ?_ ?_
    · exact fun D hD=>⟨same_new hD _,hD,upd_same,rfl⟩
    · rintro D i ys H2 hi ⟨sm,hD,h2,ey⟩
      refine ⟨sm.seq hW,h2,fun _=>small1000 ?_⟩
      rw [ey,List.length_map]
      refine Nat.le_trans (List.length_filter_le _ _) ?_
      rw [List.length_take]
      omega
    · rintro D i x ys H2 hx ⟨sm,hD,h2,ey⟩
      rw [List.getElem?_map] at hx
      obtain ⟨y,ey',exy⟩:=Option.map_eq_some_iff.mp hx
      subst exy
      obtain ⟨hi,eiy⟩:=List.getElem?_eq_some_iff.mp ey'
      refine ⟨⟨rfl,rfl,trivial⟩,_,rfl,sd,rfl,.inl ⟨_,.inr ⟨o,sm _ _ hst⟩⟩,_,rfl,_,.inl ⟨_,.inl y,.inr ⟨o,sm _ _ hst⟩,rfl,rfl⟩,_,rfl,_,rfl,sd,V.int (st r:Int),rfl,g0 H2 sm,_,_,rfl,rfl,?_⟩
      rw [val_dI]
      by_cases c:y∈q∧st y+1 = st r
      · rw [if_pos c.1]
        refine ⟨rfl,xr0 rfl ?_⟩
        rw [show decide ((some (V.int (st y:Int))).getD V.non = V.int ((st r:Int) - 1)) = true from decide_eq_true (by show V.int _ = V.int _; congr 1; omega)]
        refine iteT (xr0 rfl ⟨h2,fun b u e=>?_,hD,upd_same,?_⟩)
        · rw [upd_ne (ne_of_none e hD)]
          exact sm _ _ e
        · rw [ey,List.take_succ_eq_append_getElem hi,eiy,List.filter_append,List.filter_cons,if_pos (decide_eq_true c),List.map_append]
          rfl
      · have nx:Same H H2∧H D = none∧H2 D = some (.lst ys)∧ys = ((ws.take (i+1)).filter fun w=>decide (w∈q∧st w+1 = st r)).map V.int:=by
          refine ⟨sm,hD,h2,?_⟩
          rw [ey,List.take_succ_eq_append_getElem hi,eiy,List.filter_append,List.filter_cons,if_neg (fun e=>c (of_decide_eq_true e))]
          simp
        by_cases c1:y∈q
        · rw [if_pos c1]
          refine ⟨rfl,xr0 rfl ?_⟩
          rw [show decide ((some (V.int (st y:Int))).getD V.non = V.int ((st r:Int) - 1)) = false from decide_eq_false (fun e=>c ⟨c1,by
            have e':(st y:Int) = (st r:Int) - 1:=by injection e
            omega⟩)]
          exact iteF nx
        · rw [if_neg c1]
          refine ⟨rfl,xr0 rfl ?_⟩
          rw [show decide ((none:Option V).getD V.non = V.int ((st r:Int) - 1)) = false from decide_eq_false (fun e=>by cases e)]
          exact iteF nx
    · rintro D ys H2 ⟨sm,hD,h2,ey⟩
      rw [List.length_map,List.take_length] at ey
      subst ey
      obtain ⟨w1,hw1,hw2⟩:=hex hz
      obtain ⟨m,hm⟩:∃ m,(ws.filter fun w=>decide (w∈q∧st w+1 = st r))[0]? = some m:=⟨_,List.getElem?_eq_getElem (List.length_pos_of_mem (List.mem_filter.mpr ⟨hw1,decide_eq_true hw2⟩))⟩
      obtain ⟨m1,m2⟩:=List.mem_filter.mp (List.mem_of_getElem? hm)
      refine (xn4 D _ _ _ ⟨rfl,rfl,SqL.of h2,atI_nat (j:=0) (v:=V.int m) (by rw [List.getElem?_map,hm]; rfl),qq m H2 m1 (fun _=>of_decide_eq_true m2) sm⟩)
end
end Law

namespace Law
open PySem L2
abbrev wyH (hs:List Mi.Room) (r:Int):List Int:=(rm hs r).2.2
abbrev hdH (hs:List Mi.Room) (r:Int):Int:=(rm hs r).1
abbrev rkH (hs:List Mi.Room) (r:Int):Int:=(rm hs r).2.1
section
seal PA PE PS PSs PT PI PG PGs PIf
variable {P:Program} {w:World} {K:PySem.W.Frag} {mg:Str→Option Value} {base:Heap} {f g:Addr} {fd gd:FuncData}
def Told (H:Hp) (L:List Int) (ta:Int→Addr) (ha:Int→Int) (mo:Int→Option Int):Prop:=∀ r∈L,H (ta r) = some (.tup [.int (ha r),mvV (mo r)])
theorem Told.tups {H H':Hp} {L:List Int} {ta:Int→Addr} {ha:Int→Int} {mo:Int→Option Int} (h:Told H L ta ha mo) (k:∀ b xs,H b = some (.tup xs)→H' b = some (.tup xs)):Told H' L ta ha mo:=fun r hr=>k _ _ (h r hr)
def spLed (K:PySem.W.Frag):Sp:=fun vs H Q _=>∃ (l rl sd:Addr) (hs:List Mi.Room) (R q:List Int) (st:Int→Nat) (h:Int),vs = [.ref l,.ref rl,.int h,.ref sd]∧HallAt H l hs∧SqL K H rl (R.map V.int)∧Rms hs R∧StepsAt H sd q st∧q.Nodup∧(∀ e∈q,e∈R) ∧
  (∀ e∈q,wIn hs R e≠[])∧(∀ e∈q,hdH hs e = h→st e≠0→∃ w∈wIn hs R e,w∈q∧st w+1 = st e) ∧
  ∀ d ta mo H',Same H H'→H d = none→H' d = some (.dK (dI q fun r=>.ref (ta r)))→Told H' q ta (fun _=>h) mo→Zi.Leads (wyH hs) (hdH hs) R h q st mo→Q (.ref d) H'
theorem scLed:FnScope ["hall","rooms","hand","steps","ways","told","room"] ["hall","rooms","hand","steps"] (defScope sLed):=⟨rfl,rfl,rfl,by decide +kernel,rfl,by decide +kernel,by decide +kernel⟩
theorem ok_led {fW fM:Addr} {dW dM:FuncData} (F:Fun K "led" "led" sLed f fd) (GW:FnOk P w K mg base CX0 1 fW dW ["hall","rooms"] (spWaysIn K)) (bW:Binds K dW ["hall","rooms"] []) (kW:PySem.W.keepIn K (.ref fW) = true) (mW:mg "ways_within" = some (.ref fW))
    (GM:FnOk P w K mg base CX0 1 fM dM ["room","ways","steps"] (spMove K)) (bM:Binds K dM ["room","ways","steps"] []) (kM:PySem.W.keepIn K (.ref fM) = true) (mM:mg "move_from" = some (.ref fM)):FnOk P w K mg base CX0 2 f fd ["hall","rooms","hand","steps"] (spLed K):=by
  refine F.ok scLed (fun vs H Q E h=>?_) (fun cdv A outer s H vs Q E hr h=>?_)
  · refine xe8 h fun l rl sd hs R q st h y22=>?_
    obtain ⟨rfl,_⟩:=y22
    rfl
  obtain ⟨l,rl,sd,hs,R,q,st,h,rfl,hA,hR,rms,⟨o,hst⟩,nd,sub,wne,hex,qq⟩:=h
  have hu:=hu_of hr
  refine ⟨_,pss_cons (ps_set (i:=4) scLed.nd rfl (Or.inl rfl) (pe_call GW hr rfl mW kW bW .nil pass0 (pa_cons (pv 0) (pa_cons (pv 1) pa_nil))))
    (pss_cons (ps_set (i:=5) scLed.nd rfl (Or.inl rfl) pe_dnewK)
    (pss_cons (ps_for PassesOwn.never rfl (pi_dict (pv 3)) (pg_name (i:=6) scLed.nd rfl (Or.inl rfl))
      (pss_one (ps_dput hu (pv 5) (pv 6) (pe_tup (pa_cons (pv 2) (pa_cons (pe_ifExp (pt_cmpR op_eq (pe_ix ix_tup (pe_ix ix_list (pv 0) (pv 6) (fun _ _=>rfl)) pe_int (fun _ _=>rfl)) (pv 2) (nomark _))
        (pe_call GM hr rfl mM kM bM .nil pass0 (pa_cons (pv 6) (pa_cons (pe_dget hu (pv 4) (pv 6) (fun _ _=>rfl)) (pa_cons (pv 3) pa_nil)))) pe_non) pa_nil))) rfl)))
    (pss_one (ps_ret (pv 5))))),?_⟩
  first | dsimp only [nxK,nxP,nxW] | skip
  have lq:q.length≤R.length:=nodup_le nd sub
  have lR:=rms.len
  have kl:(dI q fun e=>V.int (st e:Int)).length = q.length:=dI_len _ _
  refine seqK fun kk1 qq1=>?_
  refine (xr0 rfl (xr0 rfl (xn4 l rl hs R ⟨rfl,hA,hR,rms,fun wd H1 s1 hwd hWs=>?_⟩)))
  refine qq1 _ _ ?_
  obtain ⟨ow,wa,hw1,hw2⟩:=hWs
  intro td htd
  have s2:=same_new htd (.dK [])
  have s12:=s1.trans s2
  have ht0:H td = none:=s1.free htd
  refine (xr0 rfl (xn3 sd o _ ⟨rfl,s12 _ _ hst,?_⟩))
  refine for_dict (a:=sd) (o:=o) (kvs:=dI q fun e=>.int (st e:Int)) (fun i σ H3=>Same H1 H3∧(∃ a,σ = [some (.ref l),some (.ref rl),some (.int h),some (.ref sd),some (.ref wd),some (.ref td),a])∧∃ (ta:Int→Addr) (mo:Int→Option Int),H3 td = some (.dK (dI (q.take i) fun r=>.ref (ta r)))∧Told H3 (q.take i) ta (fun _=>h) mo ∧
      ∀ e∈q.take i,(hdH hs e≠h→mo e = none)∧(hdH hs e = h→∃ m,mo e = some m∧m∈wIn hs R e∧(st e≠0→m∈q∧st m+1 = st e)))
    ⟨s2,⟨_,rfl⟩,fun _=>0,fun _=>none,upd_same,fun r hr=>by simp at hr,fun r hr=>by simp at hr⟩ (fun i σ H3 _ ⟨sm,_⟩=>sm _ _ (s1 _ _ hst)) ?_ ?_
  · rintro i kv σ H3 hx ⟨sm,⟨a,rfl⟩,ta,mo,h3,htl,hld⟩
    obtain ⟨r,hr',exr⟩:=Option.map_eq_some_iff.mp (by rw [← List.getElem?_map]; exact hx)
    subst exr
    obtain ⟨hi,er⟩:=List.getElem?_eq_some_iff.mp hr'
    have hrq:=List.mem_of_getElem? hr'
    have hrR:=sub r hrq
    have s13:=s1.trans sm
    obtain ⟨r0,r1⟩:=rms.inn r hrR
    obtain ⟨vs,p,qa,el,hat,hp,hq⟩:=rm_at (HallAt.same hA s13) r0 r1
    have hnr:r∉q.take i:=fun z=>by
      have:=nd
      rw [← List.take_append_drop i q,List.nodup_append] at this
      refine this.2.2 r z r ?_ rfl
      rw [List.drop_eq_getElem_cons hi,er]
      simp
    have tk:q.take (i+1) = q.take i++[r]:=by rw [List.take_succ_eq_append_getElem hi,er]
    have htn:∀ x∈q.take i,ta x≠td:=fun x hx z=>by
      have:=htl x hx
      rw [z,h3] at this
      cases this
    -- behind the pair
    have fin:∀ (H4:Hp) (tp:Addr) (mv:Option Int),Same H3 H4→H4 tp = none→((hdH hs r≠h→mv = none)∧(hdH hs r = h→∃ m,mv = some m∧m∈wIn hs R r∧(st r≠0→m∈q∧st m+1 = st r))) →
        Same H1 (upd (upd H4 tp (.tup [.int h,mvV mv])) td (.dK (dI (q.take (i+1)) fun x=>.ref (if x = r then tp else ta x))))∧Told (upd (upd H4 tp (.tup [.int h,mvV mv])) td (.dK (dI (q.take (i+1)) fun x=>.ref (if x = r then tp else ta x)))) (q.take (i+1)) (fun x=>if x = r then tp else ta x) (fun _=>h) (fun x=>if x = r then mv else mo x) ∧
        ∀ e∈q.take (i+1),(hdH hs e≠h→(if e = r then mv else mo e) = none)∧(hdH hs e = h→∃ m,(if e = r then mv else mo e) = some m∧m∈wIn hs R e∧(st e≠0→m∈q∧st m+1 = st e)):=fun H4 tp mv s4 htp hmv=>by
      have s5:=same_new htp (.tup [.int h,mvV mv])
      have ntp:tp≠td:=fun z=>by
        have:=s4 _ _ h3
        rw [← z,htp] at this
        cases this
      have cs:∀ x∈q.take (i+1),x≠r→x∈q.take i:=fun x hx z=>by
        rw [tk] at hx
        exact (List.mem_append.mp hx).resolve_right fun y=>z (List.mem_singleton.mp y)
      refine ⟨fun b u z=>?_,fun x hx=>?_,fun x hx=>?_⟩
      · rw [upd_ne (ne_of_none z htd)]
        exact s5 _ _ (s4 _ _ (sm _ _ z))
      · by_cases z:x = r
        · simp only [if_pos z]
          rw [upd_ne ntp,upd_same]
        · simp only [if_neg z]
          rw [upd_ne (htn x (cs x hx z))]
          exact s5 _ _ (s4 _ _ (htl x (cs x hx z)))
      · by_cases z:x = r
        · subst z
          simp only [if_true]
          exact hmv
        · simp only [if_neg z]
          exact hld x (cs x hx z)
    have put:∀ (H5:Hp) (tp:Addr),putK (dI (q.take i) fun x=>V.ref (ta x)) (Sum.inl r) (V.ref tp) = dI (q.take (i+1)) fun x=>.ref (if x = r then tp else ta x):=fun H5 tp=>by
      rw [put_new hnr,tk]
      congr 1
      funext x
      split<;>rfl
    refine (xr0 rfl (xr0 rfl (xr0 rfl (xn4 l vs r _ ⟨rfl,rfl,SqL.of el,hat,p,_,_,_,rfl,rfl,SqT.of hp,(show atI [V.int (rm hs r).1,V.int (rm hs r).2.1,V.ref qa] 0 = some _ from rfl),_,rfl,rfl,_,rfl,ifeq2 (fun z=>?_) (fun z=>?_)⟩))))
    · have wl:(wIn hs R r).length≤100:=Nat.le_trans (List.length_filter_le _ _) (rms.ws r hrR).2
      refine (xr0 rfl (xr0 rfl (xr0 rfl (xn2 wd (V.ref (wa r)) ⟨rfl,.inl ⟨_,.inl r,.inr ⟨ow,sm _ _ hw1⟩,rfl,by rw [val_dI,if_pos hrR]⟩,xr0 rfl (xn6 r (wa r) sd (wIn hs R r) q st ⟨rfl,SqL.of (sm _ _ (hw2 r hrR)),⟨o,s13 _ _ hst⟩,hrq,wne r hrq,wl,hex r hrq z,fun m H4 hm hms s4=>?_⟩)⟩))))
      refine ⟨(by show 2≤sizeLine; decide),fun tp htp=>?_⟩
      obtain ⟨f1,f2,f3⟩:=fin H4 tp (some m) s4 htp ⟨fun y=>absurd z y,fun _=>⟨m,rfl,hm,hms⟩⟩
      have h5:(upd H4 tp (.tup [.int h,.int m])) td = some (.dK (dI (q.take i) fun r=>.ref (ta r))):=same_new htp _ _ _ (s4 _ _ h3)
      refine (xr0 rfl (xr0 rfl (xn2 td _ ⟨rfl,DPut.k (k:=Sum.inl r) h5 (by rw [dI_len,List.length_take]; exact small1000 (by omega)),?_⟩)))
      rw [put (upd H4 tp (.tup [.int h,.int m])) tp]
      exact ⟨f1,⟨_,rfl⟩,_,_,upd_same,f2,f3⟩
    · refine ⟨(by show 2≤sizeLine; decide),fun tp htp=>?_⟩
      obtain ⟨f1,f2,f3⟩:=fin H3 tp none (Same.refl _) htp ⟨fun _=>rfl,fun y=>absurd y z⟩
      have h5:(upd H3 tp (.tup [.int h,.non])) td = some (.dK (dI (q.take i) fun r=>.ref (ta r))):=same_new htp _ _ _ h3
      refine (xr0 rfl (xr0 rfl (xn2 td _ ⟨rfl,DPut.k (k:=Sum.inl r) h5 (by rw [dI_len,List.length_take]; exact small1000 (by omega)),?_⟩)))
      rw [put (upd H3 tp (.tup [.int h,.non])) tp]
      exact ⟨f1,⟨_,rfl⟩,_,_,upd_same,f2,f3⟩
  · rintro σ H3 ⟨sm,⟨a,rfl⟩,ta,mo,h3,htl,hld⟩
    rw [kl,List.take_length] at h3 htl hld
    exact (xr0 rfl (qq td ta mo H3 (s1.trans sm) ht0 h3 htl hld))
end
end Law

namespace L2
def rngI (n:Nat):List Int:=(List.range n).map fun (k:Nat)=>(k:Int)
theorem rngI_mem {n:Nat} {x:Int}:x∈rngI n↔0≤x∧x < (n:Int):=by
  unfold rngI
  rw [List.mem_map]
  constructor
  · rintro ⟨k,hk,rfl⟩
    have:=List.mem_range.mp hk
    omega
  · rintro ⟨a,b⟩
    exact ⟨x.toNat,List.mem_range.mpr (by omega),by omega⟩
theorem rngI_len (n:Nat):(rngI n).length = n:=by rw [rngI,List.length_map,List.length_range]
theorem rngI_nodup (n:Nat):(rngI n).Nodup:=List.Pairwise.map _ (fun a b h e=>h (by omega)) List.nodup_range
theorem rngI_get {n:Nat} {x:Int} (h0:0≤x) (h1:x < (n:Int)):(rngI n)[x.toNat]? = some x:=by
  unfold rngI
  rw [List.getElem?_map,List.getElem?_range (by omega)]
  show some ((x.toNat:Nat):Int) = some x
  rw [show ((x.toNat:Nat):Int) = x by omega]
end L2

namespace Zi
theorem Part.perm {ways:Int→List Int} {hd rk:Int→Int} {R L L':List Int} {j:Int} {mo:Int→Option Int} (h:Part ways hd rk R L j mo) (e:∀ r,r∈L↔r∈L'):Part ways hd rk R L' j mo where
  sub:=fun r hr=>h.sub r ((e r).mpr hr)
  bit:=h.bit
  own:=fun r hr ho=>by
    obtain ⟨m,a,b,c⟩:=h.own r ((e r).mpr hr) ho
    exact ⟨m,a,b,(e m).mp c⟩
  oth:=fun r hr ho=>by
    obtain ⟨a,b⟩:=h.oth r ((e r).mpr hr) ho
    exact ⟨a,fun w hw=>(e w).mp (b w hw)⟩
  lef:=fun r hr hn ho w hw z=>h.lef r hr (fun y=>hn ((e r).mp y)) ho w hw ((e w).mpr z)
  cyc:=fun r hr hp hc=>by
    refine h.cyc r ((e r).mpr hr) hp ?_
    have go:∀ x,Rch (Edg ways hd R L' j mo) (fun s=>rk s≤rk r) r x→Rch (Edg ways hd R L j mo) (fun s=>rk s≤rk r) r x:=by
      intro x hx
      induction hx with
      | one e' b=>exact .one ⟨(e _).mpr e'.1,e'.2⟩ b
      | step w e' b ih=>exact .step ih ⟨(e _).mpr e'.1,e'.2⟩ b
    exact go r hc
  liv:=fun r hr=>by
    have hr':r∈left R L:=mem_left.mpr ⟨(mem_left.mp hr).1,fun y=>(mem_left.mp hr).2 ((e r).mp y)⟩
    have:=h.liv r hr'
    obtain ⟨w,hw⟩:=List.exists_mem_of_ne_nil _ this
    obtain ⟨a,b⟩:=mem_inn.mp hw
    obtain ⟨c,d⟩:=mem_left.mp b
    exact List.ne_nil_of_mem (mem_inn.mpr ⟨a,mem_left.mpr ⟨c,fun y=>d ((e w).mpr y)⟩⟩)
theorem Part.congr {ways:Int→List Int} {hd rk:Int→Int} {R L:List Int} {j:Int} {mo mo':Int→Option Int} (h:Part ways hd rk R L j mo) (e:∀ r∈L,mo r = mo' r):Part ways hd rk R L j mo' where
  sub:=h.sub
  bit:=h.bit
  own:=fun r hr ho=>by rw [← e r hr]; exact h.own r hr ho
  oth:=fun r hr ho=>by rw [← e r hr]; exact h.oth r hr ho
  lef:=h.lef
  cyc:=fun r hr hp hc=>by
    refine h.cyc r hr hp ?_
    have go:∀ x,Rch (Edg ways hd R L j mo') (fun s=>rk s≤rk r) r x→Rch (Edg ways hd R L j mo) (fun s=>rk s≤rk r) r x:=by
      intro x hx
      induction hx with
      | one e' b=>exact .one ⟨e'.1,by rw [e _ e'.1]; exact e'.2⟩ b
      | step w e' b ih=>exact .step ih ⟨e'.1,by rw [e _ e'.1]; exact e'.2⟩ b
    exact go r hc
  liv:=h.liv
end Zi
namespace L2
open PySem
theorem merge_two {f g:Int→V} {A B:List Int} (h:(A++B).Nodup):mergeK (dI A f) (dI B g) = dI (A++B) fun r=>if r∈B then g r else f r:=by
  have e1:dI A f = dI A (fun r=>if r∈B then g r else f r):=dI_congr fun r hr=>by
    rw [if_neg]
    intro hb
    exact (List.nodup_append.mp h).2.2 r hr r hb rfl
  have e2:dI B g = dI B (fun r=>if r∈B then g r else f r):=dI_congr fun r hr=>by rw [if_pos hr]
  rw [e1,e2,merge_more h]
end L2
namespace Law
open PySem L2
def ToldAt (H:Hp) (d:Addr) (R:List Int) (ha:Int→Int) (mo:Int→Option Int):Prop:=∃ (o:Obj) (L:List Int) (ta:Int→Addr),H d = some (.frz o (.dK (dI L fun r=>.ref (ta r))))∧L.Nodup∧(∀ r,r∈L↔r∈R)∧Told H L ta ha mo
abbrev SolH (hs:List Mi.Room) (R:List Int) (ha:Int→Int) (mo:Int→Option Int):Prop:=Zi.Sol (wyH hs) (hdH hs) (rkH hs) R ha mo
def KnownAt (H:Hp) (kn:Addr) (hs:List Mi.Room):Prop:=∃ kvs:List (List Key×V),H kn = some (.dT kvs)∧(kvs.map (·.1)).Nodup∧∀ kv∈kvs,∃ (R:List Int) (d:Addr) (ha:Int→Int) (mo:Int→Option Int),kv.1 = R.map Sum.inl∧R.Sublist (rngI hs.length)∧kv.2 = .ref d∧ToldAt H d R ha mo∧SolH hs R ha mo∧Zi.Live (wyH hs) R
structure Hl (hs:List Mi.Room):Prop where
  rms:Rms hs (rngI hs.length)
  bit:∀ r∈rngI hs.length,hdH hs r = 0∨hdH hs r = 1
  rk0:∀ r∈rngI hs.length,0≤rkH hs r
  few:hs.length≤18∨(hs.length≤24∧∃ r∈rngI hs.length,r∉wyH hs r)
theorem Hl.sub {hs:List Mi.Room} (h:Hl hs) {R:List Int} (s:R.Sublist (rngI hs.length)):Rms hs R :=
  ⟨h.rms.nd.sublist s,Nat.le_trans s.length_le h.rms.len,h.rms.hl,fun r hr=>h.rms.inn r (s.subset hr),fun r hr=>h.rms.ws r (s.subset hr)⟩
theorem sx_keep {H H':Hp} {kn:Addr} {kvs:List (List Key×V)} (hk:H kn = some (.dT kvs)) (sx:SameX kn H H') {b:Addr} {u:HO} (e:H b = some u) (n:u≠.dT kvs):H' b = some u:=sx b u e (ne_of e hk n)
theorem HallAt.sx {H H':Hp} {kn l:Addr} {kvs:List (List Key×V)} {hs:List Mi.Room} (hA:HallAt H l hs) (hk:H kn = some (.dT kvs)) (sx:SameX kn H H'):HallAt H' l hs:=by
  obtain ⟨vs,el,pr⟩:=hA
  exact ⟨vs,sx_keep hk sx el (by intro z; cases z),rooms_tups pr fun b xs e=>sx_keep hk sx e (by intro z; cases z)⟩
theorem Told.sx {H H':Hp} {kn:Addr} {kvs:List (List Key×V)} {L:List Int} {ta:Int→Addr} {ha:Int→Int} {mo:Int→Option Int} (h:Told H L ta ha mo) (hk:H kn = some (.dT kvs)) (sx:SameX kn H H'):Told H' L ta ha mo:=h.tups fun b xs e=>sx_keep hk sx e (by intro z; cases z)
theorem ToldAt.sx {H H':Hp} {kn d:Addr} {kvs:List (List Key×V)} {R:List Int} {ha:Int→Int} {mo:Int→Option Int} (h:ToldAt H d R ha mo) (hk:H kn = some (.dT kvs)) (sx:SameX kn H H'):ToldAt H' d R ha mo:=by
  obtain ⟨o,L,ta,a,b,c,e⟩:=h
  exact ⟨o,L,ta,sx_keep hk sx a (by intro z; cases z),b,c,e.sx hk sx⟩
theorem ToldAt.same {H H':Hp} {d:Addr} {R:List Int} {ha:Int→Int} {mo:Int→Option Int} (h:ToldAt H d R ha mo) (s:Same H H'):ToldAt H' d R ha mo:=by
  obtain ⟨o,L,ta,a,b,c,e⟩:=h
  exact ⟨o,L,ta,s _ _ a,b,c,e.tups fun b xs e=>s _ _ e⟩
theorem KnownAt.same {H H':Hp} {kn:Addr} {hs:List Mi.Room} (h:KnownAt H kn hs) (s:Same H H'):KnownAt H' kn hs:=by
  obtain ⟨kvs,a,b,c⟩:=h
  refine ⟨kvs,s _ _ a,b,fun kv hkv=>?_⟩
  obtain ⟨R,d,ha,mo,c1,c2,c3,c4,c5⟩:=c kv hkv
  exact ⟨R,d,ha,mo,c1,c2,c3,c4.same s,c5⟩
section
seal PA PE PS PSs PT PI PG PGs PIf
variable {P:Program} {w:World} {K:PySem.W.Frag} {mg:Str→Option Value} {base:Heap} {f g:Addr} {fd gd:FuncData}
def Arn (H:Hp) (l rl kn:Addr) (hs:List Mi.Room) (R:List Int) (D:Nat):Prop:=HallAt H l hs∧H rl = some (.lst (R.map V.int))∧KnownAt H kn hs∧Hl hs∧R.Sublist (rngI hs.length)∧Zi.Live (wyH hs) R∧∀ r∈R,rkH hs r < (D:Int)
def spSettled (D:Nat):Sp:=fun vs H Q _=>∃ (l rl kn:Addr) (hs:List Mi.Room) (R:List Int),vs = [.ref l,.ref rl,.ref kn]∧Arn H l rl kn hs R D∧∀ d ha mo H',SameX kn H H'→KnownAt H' kn hs→ToldAt H' d R ha mo→SolH hs R ha mo→Q (.ref d) H'
def spWon (D:Nat):Sp:=fun vs H Q _=>∃ (l rl kn:Addr) (hs:List Mi.Room) (R:List Int),vs = [.ref l,.ref rl,.ref kn]∧Arn H l rl kn hs R D∧R≠[]∧∀ d L ta j mo H',SameX kn H H'→KnownAt H' kn hs→H d = none→H' d = some (.dK (dI L fun r=>.ref (ta r)))→L.Nodup→L≠[]→Told H' L ta (fun _=>j) mo→Zi.Part (wyH hs) (hdH hs) (rkH hs) R L j mo→Q (.ref d) H'
theorem scWon:FnScope ["hall","rooms","known","top","hand","near","inner","lost","told","room"] ["hall","rooms","known"] (defScope sWonPart):=⟨rfl,rfl,rfl,by decide +kernel,rfl,by decide +kernel,by decide +kernel⟩
theorem ndRH:(["room","hall"]:List Str).Nodup:=by decide +kernel
theorem ndRHT:(["room","hall","top"]:List Str).Nodup:=by decide +kernel
theorem ndRN:(["room","near"]:List Str).Nodup:=by decide +kernel
theorem ndRIH:(["room","inner","hand"]:List Str).Nodup:=by decide +kernel
theorem ok_won {fD fS fL:Addr} {dD dS dL:FuncData} {D:Nat} (F:Fun K "won_part" "won_part" sWonPart f fd) (GD:FnOk P w K mg base CX0 2 fD dD ["hall","rooms","hand","goal"] (spDrawn K)) (bD:Binds K dD ["hall","rooms","hand","goal"] []) (kD:PySem.W.keepIn K (.ref fD) = true) (mD:mg "drawn" = some (.ref fD))
    (GS:FnOk P w K mg base CX0 (4+2*D) fS dS ["hall","rooms","known"] (spSettled D)) (bS:Binds K dS ["hall","rooms","known"] []) (kS:PySem.W.keepIn K (.ref fS) = true) (mS:mg "settled" = some (.ref fS))
    (GL:FnOk P w K mg base CX0 2 fL dL ["hall","rooms","hand","steps"] (spLed K)) (bL:Binds K dL ["hall","rooms","hand","steps"] []) (kL:PySem.W.keepIn K (.ref fL) = true) (mL:mg "led" = some (.ref fL))
    (mx:mg "max" = none) (ml:mg "len" = none) (md:mg "dict" = none):FnOk P w K mg base CX0 (5+2*D) f fd ["hall","rooms","known"] (spWon (D+1)):=by
  rw [show 5+2*D = (4+2*D)+1 by omega]
  refine F.ok scWon (fun vs H Q E h=>?_) (fun cdv A outer s H vs Q E hr h=>?_)
  · refine xe5 h fun l rl kn hs R y106=>?_
    obtain ⟨rfl,_⟩:=y106
    rfl
  refine xe5 h fun l rl kn hs R y108=>?_
  obtain ⟨rfl,⟨hA,hR,hK,hH,sub,lv,hrk⟩,hne,qq⟩:=y108
  have hu:=hu_of hr
  have hr2:L2.Room 2 _:=hr.mono (by omega)
  refine ⟨_,pss_cons (ps_set (i:=3) scWon.nd rfl (Or.inr rfl) (pe_callB (call_maxL rfl) rfl mx (by decide +kernel:bootBuiltins "max" = some (.builtin "max")) (pa_cons (pe_comp (N:=["room","hall"]) (capt:=[none,some 0]) rfl (pi_list (pv 1)) rfl (by repeat (first | exact .nil | refine .cons rfl ?_))
        (by repeat (first | exact .nil | refine .skip (by decide) (by decide) ?_ | refine .free ⟨_,rfl⟩ ?_)) (.tgt (.var rfl (.inl rfl) ⟨_,rfl⟩ (.inl rfl) .nil))
        (fun _ _ _ _ _=>pg_name (i:=0) ndRH rfl (Or.inl rfl)) (fun _ _ _ _ _=>pif_nil) (fun _ _ _ _ _=>pe_ix (ixT K) (pe_ix (ixL K) (pv 1) (pv 0) (fun _ _=>rfl)) pe_int (fun _ _=>rfl))) pa_nil)))
    (pss_cons (ps_set (i:=4) scWon.nd rfl (Or.inr rfl) (pe_op op_mod (pv 3) pe_int))
    (pss_cons (ps_set (i:=5) scWon.nd rfl (Or.inr rfl) (pe_call GD hr2 rfl mD kD bD .nil pass0 (pa_cons (pv 0) (pa_cons (pv 1) (pa_cons (pv 4) (pa_cons (pe_comp (N:=["room","hall","top"]) (capt:=[none,some 0,some 3]) rfl (pi_list (pv 1)) rfl (by repeat (first | exact .nil | refine .cons rfl ?_))
        (by repeat (first | exact .nil | refine .skip (by decide) (by decide) ?_ | refine .free ⟨_,rfl⟩ ?_)) (.tgt (.var rfl (.inl rfl) ⟨_,rfl⟩ (.inl rfl) (.var rfl (.inl rfl) ⟨_,rfl⟩ (.inl rfl) .nil)))
        (fun _ _ _ _ _=>pg_name (i:=0) ndRHT rfl (Or.inl rfl)) (fun _ _ _ _ _=>pif_one (pt_cmpR op_eq (pe_ix (ixT K) (pe_ix (ixL K) (pv 1) (pv 0) (fun _ _=>rfl)) pe_int (fun _ _=>rfl)) (pv 2) (nomark _))) (fun _ _ _ _ _=>pv 0)) pa_nil))))))
    (pss_cons (ps_set (i:=6) scWon.nd rfl (Or.inr rfl) (pe_call GS hr rfl mS kS bS .nil pass0 (pa_cons (pv 0) (pa_cons (pe_comp (N:=["room","near"]) (capt:=[none,some 5]) rfl (pi_list (pv 1)) rfl (by repeat (first | exact .nil | refine .cons rfl ?_))
        (by repeat (first | exact .nil | refine .skip (by decide) (by decide) ?_ | refine .free ⟨_,rfl⟩ ?_)) (.tgt (.var rfl (.inl rfl) ⟨_,rfl⟩ (.inl rfl) .nil))
        (fun _ _ _ _ _=>pg_name (i:=0) ndRN rfl (Or.inl rfl)) (fun _ _ _ _ _=>pif_one (pt_cmp (pc_dnotin hu (pv 0) (pv 1)))) (fun _ _ _ _ _=>pv 0)) (pa_cons (pv 2) pa_nil)))))
    (pss_cons (ps_comp (i:=7) scWon.nd rfl (Or.inl rfl) (N:=["room","inner","hand"]) (capt:=[none,some 6,some 4]) rfl (pi_dict (pv 6)) rfl (by repeat (first | exact .nil | refine .cons rfl ?_))
        (by repeat (first | exact .nil | refine .skip (by decide) (by decide) ?_ | refine .free ⟨_,rfl⟩ ?_)) (.tgt (.var rfl (.inl rfl) ⟨_,rfl⟩ (.inl rfl) (.var rfl (.inl rfl) ⟨_,rfl⟩ (.inl rfl) .nil)))
        (fun _ _ _ _ _=>pg_name (i:=0) ndRIH rfl (Or.inl rfl)) (fun _ _ _ _ _=>pif_one (pt_cmpR op_ne (pe_ix (ixT K) (pe_dget hu (pv 1) (pv 0) (fun _ _=>rfl)) pe_int (fun _ _=>rfl)) (pv 2) (nomark _))) (fun _ _ _ _ _=>pv 0))
    (pss_cons (ps_if (pt_cmpR op_eq (pe_callB call_len_seq rfl ml PySem.boot_len (pa_cons (pv 7) pa_nil)) pe_int (nomark _))
        (pss_cons (ps_set (i:=8) scWon.nd rfl (Or.inl rfl) (pe_callTy call_dictD rfl md (by decide +kernel:bootBuiltins "dict" = some (.type "dict")) (pa_cons (pv 6) pa_nil)))
        (pss_cons (ps_expr (pe_bm PySem.F.plainAttrs_dict PySem.F.slot_dict_update PySem.F.type_dict_update mt_dupdate (pv 8) (pa_cons (pe_call GL hr2 rfl mL kL bL .nil pass0 (pa_cons (pv 0) (pa_cons (pv 1) (pa_cons (pv 4) (pa_cons (pv 5) pa_nil))))) pa_nil)))
        (pss_one (ps_ret (pv 8))))) pss_nil)
    (pss_cons (ps_set (i:=8) scWon.nd rfl (Or.inl rfl) (pe_call GL hr2 rfl mL kL bL .nil pass0 (pa_cons (pv 0) (pa_cons (pv 1) (pa_cons (pe_op op_sub pe_int (pv 4)) (pa_cons (pe_call GD hr2 rfl mD kD bD .nil pass0 (pa_cons (pv 0) (pa_cons (pv 1) (pa_cons (pe_op op_sub pe_int (pv 4)) (pa_cons (pv 7) pa_nil))))) pa_nil))))))
    (pss_cons (ps_for PassesOwn.never rfl (pi_list (pv 7)) (pg_name (i:=9) scWon.nd rfl (Or.inl rfl)) (pss_one (ps_dput hu (pv 8) (pv 9) (pe_dget hu (pv 6) (pv 9) (fun _ _=>rfl)) rfl)))
    (pss_one (ps_ret (pv 8)))))))))),?_⟩
  first | dsimp only [nxK,nxP,nxW] | skip
  have rms:=hH.sub sub
  have lR:=rms.len
  obtain ⟨kvs,hk,hkn,hkv⟩:=id hK
  have hRn:∀ {H':Hp},Same H H'→∀ r∈R,∃ vs p q,H' l = some (.lst vs)∧atI vs r = some (.ref p)∧H' p = some (.tup [.int (rm hs r).1,.int (rm hs r).2.1,.ref q]):=fun sm r hr=>by
    obtain ⟨r0,r1⟩:=rms.inn r hr
    obtain ⟨vs,p,q,a,b,c,_⟩:=rm_at (HallAt.same hA sm) r0 r1
    exact ⟨vs,p,q,a,b,c⟩
  refine seqK fun kk1 qq1=>?_
  refine (xr0 rfl ⟨rl,rfl,⟨_,SqL.of hR⟩,?_⟩)
  refine comp_list (K:=K) (a:=rl) (xs:=R.map V.int) (fun D i ys H2=>Same H H2∧H D = none∧H2 D = some (.lst ys)∧ys = ((R.take i).map (rkH hs)).map V.int) ?_ ?_ ?_ ?_
  · exact fun D hD=>⟨same_new hD _,hD,upd_same,rfl⟩
  · rintro D i ys H2 hi ⟨sm,hD,h2,ey⟩
    refine ⟨SqL.of (sm _ _ hR),h2,fun _=>small1000 ?_⟩
    rw [ey,List.length_map,List.length_map,List.length_take]
    omega
  · rintro D i x ys H2 hx ⟨sm,hD,h2,ey⟩
    rw [List.getElem?_map] at hx
    obtain ⟨r,hr',exr⟩:=Option.map_eq_some_iff.mp hx
    subst exr
    obtain ⟨hi,er⟩:=List.getElem?_eq_some_iff.mp hr'
    obtain ⟨vs,p,qa,el,hat,hp⟩:=hRn sm r (List.mem_of_getElem? hr')
    refine ⟨⟨rfl,trivial⟩,_,rfl,_,rfl,l,vs,r,_,rfl,rfl,SqL.of el,hat,p,_,_,_,rfl,rfl,SqT.of hp,(show atI [V.int (rm hs r).1,V.int (rm hs r).2.1,V.ref qa] 1 = some _ from rfl),h2,fun b u e=>?_,hD,upd_same,?_⟩
    · rw [upd_ne (ne_of_none e hD)]
      exact sm _ _ e
    · rw [ey,List.take_succ_eq_append_getElem hi,er,List.map_append,List.map_append]
      rfl
  rintro D1 ys H2 ⟨s2,hD1,h2,ey⟩
  rw [List.length_map,List.take_length] at ey
  subst ey
  refine ⟨D1,R.map (rkH hs),rfl,SqL.of h2,(fun e=>hne (List.map_eq_nil_iff.mp e)),fun M hM hmax=>?_⟩
  refine qq1 _ _ ?_
  obtain ⟨rt,hrt,hrM⟩:=List.mem_map.mp hM
  have hmaxR:∀ r∈R,rkH hs r≤M:=fun r hr=>hmax _ (List.mem_map.mpr ⟨r,hr,rfl⟩)
  have M0:0≤M:=by
    rw [← hrM]
    exact hH.rk0 rt (sub.subset hrt)
  have MD:M < ((D+1:Nat):Int):=by
    rw [← hrM]
    exact hrk rt hrt
  refine seqK fun kk2 qq2=>?_
  refine (xr0 rfl (xr2 rfl rfl ⟨(by show (0:Int) < 2; decide),?_⟩))
  refine qq2 _ _ ?_
  have hi01:M % 2 = 0∨M % 2 = 1:=by omega
  refine seqK fun kk3 qq3=>?_
  refine (xr0 rfl (xr0 rfl (xr0 rfl (xr0 rfl ⟨rl,rfl,⟨_,SqL.of (s2 _ _ hR)⟩,?_⟩))))
  refine comp_list (K:=K) (a:=rl) (xs:=R.map V.int) (fun D i ys H3=>Same H2 H3∧H2 D = none∧H3 D = some (.lst ys)∧ys = ((R.take i).filter fun r=>decide (rkH hs r = M)).map V.int) ?_ ?_ ?_ ?_
  · exact fun D hD=>⟨same_new hD _,hD,upd_same,rfl⟩
  · rintro D i ys H3 hi ⟨sm,hD,h3,ey⟩
    refine ⟨SqL.of (sm _ _ (s2 _ _ hR)),h3,fun _=>small1000 ?_⟩
    rw [ey,List.length_map]
    refine Nat.le_trans (List.length_filter_le _ _) ?_
    rw [List.length_take]
    omega
  · rintro D i x ys H3 hx ⟨sm,hD,h3,ey⟩
    rw [List.getElem?_map] at hx
    obtain ⟨r,hr',exr⟩:=Option.map_eq_some_iff.mp hx
    subst exr
    obtain ⟨hi,er⟩:=List.getElem?_eq_some_iff.mp hr'
    obtain ⟨vs,p,qa,el,hat,hp⟩:=hRn (s2.trans sm) r (List.mem_of_getElem? hr')
    refine ⟨⟨rfl,rfl,trivial⟩,_,rfl,_,rfl,l,vs,r,_,rfl,rfl,SqL.of el,hat,p,_,_,_,rfl,rfl,SqT.of hp,(show atI [V.int (rm hs r).1,V.int (rm hs r).2.1,V.ref qa] 1 = some _ from rfl),_,rfl,rfl,_,rfl,ifeq2 (fun z=>?_) (fun z=>?_)⟩
    · refine (xr0 rfl ⟨h3,fun b u e=>?_,hD,upd_same,?_⟩)
      · rw [upd_ne (ne_of_none e hD)]
        exact sm _ _ e
      · rw [ey,List.take_succ_eq_append_getElem hi,er,List.filter_append,List.filter_cons,if_pos (decide_eq_true z),List.map_append]
        rfl
    · refine ⟨sm,hD,h3,?_⟩
      rw [ey,List.take_succ_eq_append_getElem hi,er,List.filter_append,List.filter_cons,if_neg (fun e=>z (of_decide_eq_true e))]
      simp
  rintro D2 ys H3 ⟨s3,hD2,h3,ey⟩
  rw [List.length_map,List.take_length] at ey
  subst ey
  have hG:∀ r,r∈(R.filter fun r=>decide (rkH hs r = M))↔r∈R∧rkH hs r = M:=fun r=>by rw [List.mem_filter,decide_eq_true_eq]
  have lG:(R.filter fun r=>decide (rkH hs r = M)).length≤100:=Nat.le_trans (List.length_filter_le _ _) lR
  generalize (R.filter fun r=>decide (rkH hs r = M)) = G at h3 hG lG
  have s03:=s2.trans s3
  refine (xn7 l rl D2 hs R G _ ⟨rfl,hA.same s03,SqL.of (s03 _ _ hR),SqL.of h3,rms,lG,fun x hx=>((hG x).mp hx).1,fun nd qn sn H4 s4 hnd hSn hdn=>?_⟩)
  refine qq3 _ _ ?_
  obtain ⟨on,hsn⟩:=id hSn
  have dn:Bf.Drawn (Zi.inn (wyH hs) R) (Zi.ownH (hdH hs) (M % 2)) R G qn sn:=hdn
  have s04:=s03.trans s4
  refine seqK fun kk4 qq4=>?_
  refine (xr0 rfl (xr0 rfl ⟨rl,rfl,⟨_,SqL.of (s04 _ _ hR)⟩,?_⟩))
  refine comp_list (K:=K) (a:=rl) (xs:=R.map V.int) (fun D i ys H5=>Same H4 H5∧H4 D = none∧H5 D = some (.lst ys)∧ys = ((R.take i).filter fun r=>decide (r∉qn)).map V.int) ?_ ?_ ?_ ?_
  · exact fun D hD=>⟨same_new hD _,hD,upd_same,rfl⟩
  · rintro D i ys H5 hi ⟨sm,hD,h5,ey⟩
    refine ⟨SqL.of (sm _ _ (s04 _ _ hR)),h5,fun _=>small1000 ?_⟩
    rw [ey,List.length_map]
    refine Nat.le_trans (List.length_filter_le _ _) ?_
    rw [List.length_take]
    omega
  · rintro D i x ys H5 hx ⟨sm,hD,h5,ey⟩
    rw [List.getElem?_map] at hx
    obtain ⟨r,hr',exr⟩:=Option.map_eq_some_iff.mp hx
    subst exr
    obtain ⟨hi,er⟩:=List.getElem?_eq_some_iff.mp hr'
    refine ⟨⟨rfl,trivial⟩,_,rfl,_,rfl,nd,_,rfl,.inl ⟨_,.inl r,.inr ⟨on,sm _ _ hsn⟩,rfl,rfl⟩,_,rfl,?_⟩
    rw [val_dI]
    by_cases c:r∈qn
    · rw [if_pos c]
      refine iteF ⟨sm,hD,h5,?_⟩
      rw [ey,List.take_succ_eq_append_getElem hi,er,List.filter_append,List.filter_cons,if_neg (fun e=>(of_decide_eq_true e) c)]
      simp
    · rw [if_neg c]
      refine iteT (xr0 rfl ⟨h5,fun b u e=>?_,hD,upd_same,?_⟩)
      · rw [upd_ne (ne_of_none e hD)]
        exact sm _ _ e
      · rw [ey,List.take_succ_eq_append_getElem hi,er,List.filter_append,List.filter_cons,if_pos (decide_eq_true c),List.map_append]
        rfl
  rintro D3 ys H5 ⟨s5,hD3,h5,ey⟩
  rw [List.length_map,List.take_length] at ey
  have ey2:ys = (Zi.left R qn).map V.int:=ey
  subst ey2
  have s05:=s04.trans s5
  have lsub:(Zi.left R qn).Sublist R:=List.filter_sublist
  have lrk:∀ r∈Zi.left R qn,rkH hs r < (D:Int):=fun r hr=>by
    obtain ⟨a,b⟩:=Zi.mem_left.mp hr
    have:=hmaxR r a
    have ne:rkH hs r≠M:=fun e=>b (dn.g0 r ((hG r).mpr ⟨a,e⟩)).1
    omega
  refine (xr0 rfl (xn5 l D3 kn hs (Zi.left R qn) ⟨rfl,⟨hA.same s05,h5,hK.same s05,hH,lsub.trans sub,Zi.left_live dn lv,lrk⟩,fun ind ha mi H6 sx6 hK6 hTd hSol=>?_⟩))
  refine qq4 _ _ ?_
  have hk5:=s05 _ _ hk
  have k6:∀ {b:Addr} {u:HO},H b = some u→u≠.dT kvs→H6 b = some u:=fun e n=>sx_keep hk5 sx6 (s05 _ _ e) n
  have hA6:HallAt H6 l hs:=HallAt.sx (hA.same s05) hk5 sx6
  have hR6:H6 rl = some (.lst (R.map V.int)):=k6 hR (by intro z; cases z)
  have hn6:H6 nd = some (.frz on (.dK (dI qn fun e=>.int (sn e:Int)))):=sx_keep hk5 sx6 (s5 _ _ hsn) (by intro z; cases z)
  have sx06:SameX kn H H6:=fun b u e n=>sx6 b u (s05 _ _ e) n
  obtain ⟨oi,L6,ta,eI,nd6,mem6,tl6⟩:=id hTd
  have kl:(dI L6 fun r=>V.ref (ta r)).length = L6.length:=dI_len _ _
  have l6:L6.length≤R.length:=nodup_le nd6 fun x hx=>(Zi.mem_left.mp ((mem6 x).mp hx)).1
  refine (xr0 rfl (xn3 ind oi _ ⟨rfl,eI,?_⟩))
  refine comp_dict (a:=ind) (o:=oi) (kvs:=dI L6 fun r=>.ref (ta r)) (fun D i ys H7=>Same H6 H7∧H6 D = none∧H7 D = some (.lst ys)∧ys = ((L6.take i).filter fun r=>decide (ha r≠M % 2)).map V.int) ?_ ?_ ?_ ?_
  · exact fun D hD=>⟨same_new hD _,hD,upd_same,rfl⟩
  · rintro D i ys H7 hi ⟨sm,hD,h7,ey⟩
    refine ⟨sm _ _ eI,h7,fun _=>small1000 ?_⟩
    rw [ey,List.length_map]
    refine Nat.le_trans (List.length_filter_le _ _) ?_
    rw [List.length_take]
    omega
  · rintro D i kv ys H7 hx ⟨sm,hD,h7,ey⟩
    obtain ⟨r,hr',exr⟩:=Option.map_eq_some_iff.mp (by rw [← List.getElem?_map]; exact hx)
    subst exr
    obtain ⟨hi,er⟩:=List.getElem?_eq_some_iff.mp hr'
    have hr6:=List.mem_of_getElem? hr'
    refine ⟨⟨rfl,rfl,trivial⟩,_,rfl,_,rfl,ind,V.ref (ta r),rfl,.inl ⟨_,.inl r,.inr ⟨oi,sm _ _ eI⟩,rfl,by rw [val_dI,if_pos hr6]⟩,ta r,_,_,_,rfl,rfl,SqT.of (sm _ _ (tl6 r hr6)),(show atI [V.int (ha r),mvV (mi r)] 0 = some _ from rfl),_,rfl,rfl,_,rfl,?_⟩
    by_cases c:ha r = M % 2
    · rw [show (!decide (V.int (ha r) = V.int (M % 2))) = false by rw [c]; simp]
      refine iteF ⟨sm,hD,h7,?_⟩
      rw [ey,List.take_succ_eq_append_getElem hi,er,List.filter_append,List.filter_cons,if_neg (fun e=>(of_decide_eq_true e) c)]
      simp
    · rw [show (!decide (V.int (ha r) = V.int (M % 2))) = true by rw [decide_eq_false (fun e=>c (by injection e))]; rfl]
      refine iteT (xr0 rfl ⟨h7,fun b u e=>?_,hD,upd_same,?_⟩)
      · rw [upd_ne (ne_of_none e hD)]
        exact sm _ _ e
      · rw [ey,List.take_succ_eq_append_getElem hi,er,List.filter_append,List.filter_cons,if_pos (decide_eq_true c),List.map_append]
        rfl
  rintro D7 ys H7 ⟨s7,hD7,h7,ey⟩
  rw [kl,List.take_length] at ey
  subst ey
  have hls:∀ r,r∈(L6.filter fun r=>decide (ha r≠M % 2))↔r∈Zi.left R qn∧ha r≠M % 2:=fun r=>by rw [List.mem_filter,decide_eq_true_eq,mem6]
  have nls:(L6.filter fun r=>decide (ha r≠M % 2)).Nodup:=nd6.filter _
  have lls:(L6.filter fun r=>decide (ha r≠M % 2)).length≤100:=Nat.le_trans (List.length_filter_le _ _) (by omega)
  generalize (L6.filter fun r=>decide (ha r≠M % 2)) = lost at h7 hls nls lls
  have hA7:=hA6.same s7
  have hR7:=s7 _ _ hR6
  have hn7:=s7 _ _ hn6
  have sx07:SameX kn H H7:=fun b u e n=>s7 _ _ (sx06 b u e n)
  have hK7:=hK6.same s7
  have eI7:=s7 _ _ eI
  have tl7:Told H7 L6 ta ha mi:=tl6.tups fun b xs e=>s7 _ _ e
  have lvq:∀ {i:Int} {Gq q:List Int} {st:Int→Nat},Bf.Drawn (wIn hs R) (ownB hs i) R Gq q st→(∀ e∈q,wIn hs R e≠[])∧(∀ e∈q,hdH hs e = i→st e≠0→∃ w∈wIn hs R e,w∈q∧st w+1 = st e):=fun d=>by
    refine ⟨fun e he=>lv e (d.sub e he),fun e he ho h0=>?_⟩
    have hg:e∉_:=fun z=>h0 (d.g0 e z).2
    obtain ⟨⟨w,hw,wq,e1⟩,_⟩:=d.stO e he hg (decide_eq_true ho)
    exact ⟨w,hw,wq,by omega⟩
  refine (xr0 rfl (xn2 D7 _ ⟨rfl,.inl (SqL.of h7),rfl,xr0 rfl (ifeq2 (fun z=>?_) (fun z=>?_))⟩))
  · have hno:∀ r∈Zi.left R qn,ha r = M % 2:=fun r hr=>Classical.byContradiction fun c=>by
      have hm:=(hls r).mpr ⟨hr,c⟩
      have:0 < lost.length:=List.length_pos_of_mem hm
      rw [List.length_map] at z
      omega
    refine (xr0 rfl (xn2 ind _ ⟨rfl,.inr ⟨oi,eI7⟩,fun td htd=>?_⟩))
    have s8:=same_new htd (.dK (dI L6 fun r=>.ref (ta r)))
    have etd:(upd H7 td (.dK (dI L6 fun r=>.ref (ta r)))) td = some (.dK (dI L6 fun r=>.ref (ta r))):=upd_same
    generalize upd H7 td (.dK (dI L6 fun r=>.ref (ta r))) = H8 at s8 etd
    obtain ⟨v1,v2⟩:=lvq hdn
    refine (xr0 rfl ⟨.inr (.inr (.inl ⟨rfl,.inl ⟨_,etd⟩⟩)),xr0 rfl (xr0 rfl (xr0 rfl (xr0 rfl (xn8 l rl nd hs R qn sn _ ⟨rfl,hA7.same s8,SqL.of (s8 _ _ hR7),rms,⟨on,s8 _ _ hn7⟩,dn.nd,dn.sub,v1,v2,fun ld ta2 mn H9 s9 hld hld2 htl hLd=>?_⟩))))⟩)
    have ndq:(L6++qn).Nodup:=List.nodup_append.mpr ⟨nd6,dn.nd,fun x hx y hy e=>(Zi.mem_left.mp ((mem6 x).mp hx)).2 (e▸hy)⟩
    have hne2:td≠ld:=fun e=>by
      have:=etd
      rw [e,hld] at this
      cases this
    have lqn:qn.length≤R.length:=nodup_le dn.nd dn.sub
    refine (xn4 td ld _ _ ⟨rfl,rfl,s9 _ _ etd,.inl hld2,hne2,by rw [dI_len,dI_len]; omega,?_⟩)
    rw [merge_two ndq]
    have ef:(fun r=>if r∈qn then V.ref (ta2 r) else V.ref (ta r)) = fun r=>V.ref (if r∈qn then ta2 r else ta r):=by
      funext x
      split<;>rfl
    rw [ef]
    have htd0:H td = none:=by
      cases e:H td with
      | none=>rfl
      | some o =>
        have hkt:td≠kn:=fun y=>by
          obtain ⟨k2,hk2,_⟩:=hK7
          rw [y] at htd
          rw [hk2] at htd
          cases htd
        have:=sx07 td o e hkt
        rw [htd] at this
        cases this
    have kt:∀ b xs,H9 b = some (.tup xs)→(upd H9 td (.dK (dI (L6++qn) fun r=>V.ref (if r∈qn then ta2 r else ta r)))) b = some (.tup xs):=fun b xs e=>by
      rw [upd_ne (ne_of e (s9 _ _ etd) (by intro z; cases z))]
      exact e
    have s79:=s8.trans s9
    have keep9:∀ b u,H7 b = some u→(upd H9 td (.dK (dI (L6++qn) fun r=>V.ref (if r∈qn then ta2 r else ta r)))) b = some u:=fun b u e=>by
      rw [upd_ne (ne_of_none e htd)]
      exact s79 _ _ e
    refine (xr0 rfl (qq td (L6++qn) (fun r=>if r∈qn then ta2 r else ta r) (M % 2) (fun r=>if r∈qn then mn r else mi r) _ (fun b u e n=>keep9 _ _ (sx07 b u e n)) (hK7.same keep9) htd0 upd_same ndq ?_ (fun r hr=>?_) ?_))
    · exact List.ne_nil_of_mem (List.mem_append_right _ (dn.g0 rt ((hG rt).mpr ⟨hrt,hrM⟩)).1)
    · by_cases y:r∈qn
      · simp only [if_pos y]
        exact kt _ _ (htl r y)
      · simp only [if_neg y]
        have hr6:r∈L6:=(List.mem_append.mp hr).resolve_right y
        have:=tl7 r hr6
        rw [hno r ((mem6 r).mp hr6)] at this
        exact kt _ _ (s79 _ _ this)
    · refine (Zi.all_won hi01 rfl hmaxR hG dn hLd hSol hno).perm fun r=>?_
      rw [List.mem_append,mem6,Zi.mem_left]
      constructor
      · intro hr
        by_cases y:r∈qn
        · exact .inr y
        · exact .inl ⟨hr,y⟩
      · rintro (⟨a,_⟩ | a)
        · exact a
        · exact dn.sub r a
  · have hlne:lost≠[]:=fun e=>z (by rw [e]; rfl)
    refine (xr0 rfl (xr0 rfl (xr0 rfl (xr2 rfl rfl (xr0 rfl (xr0 rfl (xr0 rfl (xr2 rfl rfl (xr0 rfl (xn7 l rl D7 hs R lost _ ⟨rfl,hA7,SqL.of hR7,SqL.of h7,rms,lls,fun x hx=>(Zi.mem_left.mp ((hls x).mp hx).1).1,fun sd q2 st2 H8 s8 hsd hSt2 hd2=>?_⟩))))))))))
    obtain ⟨v1,v2⟩:=lvq hd2
    refine (xn8 l rl sd hs R q2 st2 _ ⟨rfl,hA7.same s8,SqL.of (s8 _ _ hR7),rms,hSt2,hd2.nd,hd2.sub,v1,v2,fun td ta2 mn H9 s9 htd htd2 htl hLd=>?_⟩)
    have d2:Bf.Drawn (Zi.inn (wyH hs) R) (Zi.ownH (hdH hs) (1 - M % 2)) R lost q2 st2:=hd2
    have s79:=s8.trans s9
    have lq2:q2.length≤R.length:=nodup_le d2.nd d2.sub
    have hj:∀ r∈lost,ha r = 1 - M % 2:=fun r hr=>by
      obtain ⟨a,b⟩:=(hls r).mp hr
      have:=hSol.bit r a
      omega
    have htd7:H7 td = none:=s8.free htd
    have htd0:H td = none:=by
      cases e:H td with
      | none=>rfl
      | some o =>
        have hkt:td≠kn:=fun y=>by
          obtain ⟨k2,hk2,_⟩:=hK7
          rw [y] at htd7
          rw [hk2] at htd7
          cases htd7
        have:=sx07 td o e hkt
        rw [htd7] at this
        cases this
    refine (xr0 rfl ⟨D7,rfl,⟨_,SqL.of (s79 _ _ h7)⟩,?_⟩)
    refine for_list (K:=K) (a:=D7) (xs:=lost.map V.int) (fun k σ H10=>Same H7 H10∧(∃ a,σ = [some (.ref l),some (.ref rl),some (.ref kn),some (.int M),some (.int (M % 2)),some (.ref nd),some (.ref ind),some (.ref D7),some (.ref td),a])∧∃ tf:Int→Addr,H10 td = some (.dK (dI q2 fun r=>.ref (tf r)))∧Told H10 q2 tf (fun _=>1 - M % 2) (fun r=>if r∈lost.take k then mi r else mn r))
      ⟨s79,⟨_,rfl⟩,ta2,htd2,fun r hr=>by simpa using htl r hr⟩ (fun k σ H10 _ ⟨sm,_⟩=>SqL.of (sm _ _ h7)) ?_ ?_
    · rintro k x σ H10 hx ⟨sm,⟨a,rfl⟩,tf,h10,htf⟩
      rw [List.getElem?_map] at hx
      obtain ⟨r,hr',exr⟩:=Option.map_eq_some_iff.mp hx
      subst exr
      obtain ⟨hk',er⟩:=List.getElem?_eq_some_iff.mp hr'
      have hrl:=List.mem_of_getElem? hr'
      have hr6:r∈L6:=(mem6 r).mpr ((hls r).mp hrl).1
      have hrq:r∈q2:=(d2.g0 r hrl).1
      refine (xr0 rfl (xr0 rfl (xn2 ind (V.ref (ta r)) ⟨rfl,.inl ⟨_,.inl r,.inr ⟨oi,sm _ _ eI7⟩,rfl,by rw [val_dI,if_pos hr6]⟩,xr0 rfl (xr0 rfl (xn2 td _ ⟨rfl,DPut.k (k:=Sum.inl r) h10 (by rw [dI_len]; exact small1000 (by omega)),?_⟩))⟩)))
      rw [put_old hrq]
      have ef:(fun x=>if x = r then V.ref (ta r) else V.ref (tf x)) = fun x=>V.ref (if x = r then ta r else tf x):=by
        funext x
        split<;>rfl
      rw [ef]
      have kt:∀ b xs,H10 b = some (.tup xs)→(upd H10 td (.dK (dI q2 fun x=>V.ref (if x = r then ta r else tf x)))) b = some (.tup xs):=fun b xs e=>by
        rw [upd_ne (ne_of e h10 (by intro z; cases z))]
        exact e
      refine ⟨fun b u e=>?_,⟨_,rfl⟩,fun x=>if x = r then ta r else tf x,upd_same,fun x hx=>?_⟩
      · rw [upd_ne (ne_of_none e htd7)]
        exact sm _ _ e
      · rw [List.take_succ_eq_append_getElem hk',er]
        by_cases y:x = r
        · subst y
          have:=tl7 x hr6
          rw [hj x hrl] at this
          simp only [if_true]
          rw [if_pos (by simp)]
          exact kt _ _ (sm _ _ this)
        · simp only [if_neg y]
          have e2:(x∈lost.take k++[r])↔x∈lost.take k:=by simp [y]
          have:=htf x hx
          dsimp only at this ⊢
          by_cases c:x∈lost.take k
          · rw [if_pos (e2.mpr c)]
            rw [if_pos c] at this
            exact kt _ _ this
          · rw [if_neg (fun q=>c (e2.mp q))]
            rw [if_neg c] at this
            exact kt _ _ this
    · rintro σ H10 ⟨sm,⟨a,rfl⟩,tf,h10,htf⟩
      rw [List.length_map,List.take_length] at htf
      obtain ⟨y,hy⟩:=List.exists_mem_of_ne_nil _ hlne
      exact (xr0 rfl (qq td q2 tf (1 - M % 2) (fun r=>if r∈lost then mi r else mn r) H10 (fun b u e n=>sm _ _ (sx07 b u e n)) (hK7.same sm) htd0 h10 d2.nd (List.ne_nil_of_mem (d2.g0 y hy).1) htf (Zi.some_lost (fun r hr=>hH.bit r (sub.subset hr)) lv hi01 dn hSol hls d2 hLd)))
end
end Law

namespace L2
open PySem
theorem nodup_leG {α:Type} [DecidableEq α]:∀ {l R:List α},l.Nodup→(∀ x∈l,x∈R)→l.length≤R.length
  | [],_,_,_=>Nat.zero_le _
  | a::l,R,h,s=>by
    obtain ⟨h1,h2⟩:=List.nodup_cons.mp h
    have:=nodup_leG (R:=R.erase a) h2 fun x hx=>(List.mem_erase_of_ne (fun (z:x = a)=>h1 (z▸hx))).mpr (s x (List.mem_cons.mpr (.inr hx)))
    rw [List.length_erase_of_mem (s a (by simp))] at this
    have:=List.length_pos_of_mem (s a (by simp))
    rw [List.length_cons]
    omega
def subs:List Int→List (List Int)
  | []=>[[]]
  | a::l=>subs l++(subs l).map (a::·)
theorem subs_len:∀ l:List Int,(subs l).length = 2 ^ l.length
  | []=>rfl
  | a::l=>by rw [subs,List.length_append,List.length_map,subs_len l,List.length_cons,Nat.pow_succ]; omega
theorem subs_mem {l R:List Int} (h:R.Sublist l):R∈subs l:=by
  induction h with
  | slnil=>simp [subs]
  | cons a _ ih=>exact List.mem_append_left _ ih
  | cons_cons a _ ih=>exact List.mem_append_right _ (List.mem_map.mpr ⟨_,ih,rfl⟩)
theorem inl_inj:∀ {A B:List Int},(A.map Sum.inl:List Key) = B.map Sum.inl→A = B
  | [],[],_=>rfl
  | [],_::_,h=>by cases h
  | _::_,[],h=>by cases h
  | a::A,b::B,h=>by
    rw [List.map_cons,List.map_cons] at h
    obtain ⟨h1,h2⟩:=List.cons.inj h
    rw [Sum.inl.inj h1,inl_inj h2]
theorem putT_mem {kvs:List (List Key×V)} {k:List Key} {v:V} {kv:List Key×V} (h:kv∈putK kvs k v):kv = (k,v)∨kv∈kvs:=by
  unfold putK at h
  split at h
  · obtain ⟨x,hx,rfl⟩:=List.mem_map.mp h
    split
    · rename_i e
      exact .inl (by rw [e])
    · exact .inr hx
  · rcases List.mem_append.mp h with h | h
    · exact .inr h
    · exact .inl (List.mem_singleton.mp h)
theorem putT_keys {kvs:List (List Key×V)} {k:List Key} {v:V} (h:(kvs.map (·.1)).Nodup):((putK kvs k v).map (·.1)).Nodup:=by
  unfold putK
  split
  · rw [List.map_map]
    have:(kvs.map ((fun x=>x.1) ∘ fun kv=>if kv.1 = k then (kv.1,v) else kv)) = kvs.map (·.1):=List.map_congr_left fun x _=>by
      show (if x.1 = k then (x.1,v) else x).1 = x.1
      split<;>rfl
    rw [this]
    exact h
  · rename_i hn
    rw [List.map_append]
    refine List.nodup_append.mpr ⟨h,by simp,fun a ha b hb e=>?_⟩
    obtain ⟨x,hx,rfl⟩:=List.mem_map.mp ha
    simp only [List.map_cons,List.map_nil,List.mem_singleton] at hb
    apply hn
    rw [List.any_eq_true]
    exact ⟨x,hx,decide_eq_true (e.trans hb)⟩
theorem putT_val {kvs:List (List Key×V)} {k:List Key} {v:V}:(valV (putK kvs k v) k).isSome = true:=by
  unfold valV putK
  rw [Option.isSome_map,List.find?_isSome]
  split
  · rename_i h
    obtain ⟨x,hx,e⟩:=List.any_eq_true.mp h
    refine ⟨if x.1 = k then (x.1,v) else x,List.mem_map.mpr ⟨x,hx,rfl⟩,?_⟩
    rw [if_pos (of_decide_eq_true e)]
    exact e
  · exact ⟨(k,v),by simp,decide_eq_true rfl⟩
theorem valT_mem {kvs:List (List Key×V)} {k:List Key} {v:V} (h:valV kvs k = some v):(k,v)∈kvs:=by
  unfold valV at h
  obtain ⟨kv,hf,rfl⟩:=Option.map_eq_some_iff.mp h
  have h1:=List.mem_of_find?_eq_some hf
  have h2:=List.find?_some hf
  have e:kv.1 = k:=of_decide_eq_true h2
  rw [← e]
  exact h1
end L2
namespace Law
open PySem L2
theorem KnownAt.few {H:Hp} {hs:List Mi.Room} {kvs:List (List Key×V)} (hh:Hl hs) (nd:(kvs.map (·.1)).Nodup) (h:∀ kv∈kvs,∃ (R:List Int) (d:Addr) (ha:Int→Int) (mo:Int→Option Int),kv.1 = R.map Sum.inl∧R.Sublist (rngI hs.length)∧kv.2 = .ref d∧ToldAt H d R ha mo∧SolH hs R ha mo∧Zi.Live (wyH hs) R):kvs.length < sizeLine:=by
  have sb:∀ x∈kvs.map (·.1),x∈(subs (rngI hs.length)).map fun R=>(R.map Sum.inl:List Key):=fun x hx=>by
    obtain ⟨kv,hkv,rfl⟩:=List.mem_map.mp hx
    obtain ⟨R,_,_,_,e,s,_⟩:=h kv hkv
    exact List.mem_map.mpr ⟨R,subs_mem s,e.symm⟩
  rcases hh.few with h18 | ⟨h24,r,hr,hself⟩
  · have h1:=nodup_leG nd sb
    rw [List.length_map,List.length_map,subs_len,rngI_len] at h1
    have h2:2 ^ hs.length≤2 ^ 18:=Nat.pow_le_pow_right (by decide) h18
    exact Nat.lt_of_le_of_lt (Nat.le_trans h1 h2) (by decide)
  · have nd2:((([r]:List Int).map Sum.inl:List Key)::kvs.map (·.1)).Nodup:=by
      refine List.nodup_cons.mpr ⟨fun z=>?_,nd⟩
      obtain ⟨kv,hkv,e1⟩:=List.mem_map.mp z
      obtain ⟨R,_,_,_,e,_,_,_,_,lv⟩:=h kv hkv
      have eR:R = [r]:=by
        rw [e] at e1
        exact List.map_inj_right (fun {a b} z=>by injection z) |>.mp e1
      subst eR
      have:=lv r (by simp)
      obtain ⟨w,hw⟩:=List.exists_mem_of_ne_nil _ this
      obtain ⟨w1,w2⟩:=Zi.mem_inn.mp hw
      rw [List.mem_singleton.mp w2] at w1
      exact hself w1
    have h1:=nodup_leG (R:=(subs (rngI hs.length)).map fun R=>(R.map Sum.inl:List Key)) nd2 fun x hx=>by
      rcases List.mem_cons.mp hx with rfl | hx
      · exact List.mem_map.mpr ⟨[r],subs_mem (List.singleton_sublist.mpr hr),rfl⟩
      · exact sb x hx
    rw [List.length_cons,List.length_map,List.length_map,subs_len,rngI_len] at h1
    have h2:2 ^ hs.length≤2 ^ 24:=Nat.pow_le_pow_right (by decide) h24
    exact Nat.lt_of_lt_of_le (Nat.lt_succ_self _) (Nat.le_trans h1 h2)
section
seal PA PE PS PSs PT PI PG PGs PIf
variable {P:Program} {w:World} {K:PySem.W.Frag} {mg:Str→Option Value} {base:Heap} {f g:Addr} {fd gd:FuncData}
theorem scSettled:FnScope ["hall","rooms","known","key","told","left"] ["hall","rooms","known"] (defScope sSettled):=⟨rfl,rfl,rfl,by decide +kernel,rfl,by decide +kernel,by decide +kernel⟩
theorem ndRT:(["room","told"]:List Str).Nodup:=by decide +kernel
def midK (l rl kn:Addr) (hs:List Mi.Room) (R:List Int) (H:Hp):St→Hp→Prop:=fun σ' H'=>∃ (kt:Addr) (x4 x5:Option V) (kvs:List (List Key×V)),σ' = [some (.ref l),some (.ref rl),some (.ref kn),some (.ref kt),x4,x5]∧SameX kn H H'∧KnownAt H' kn hs∧H' kt = some (.tup (R.map V.int))∧H' kn = some (.dT kvs)∧(valV kvs (R.map Sum.inl)).isSome = true
theorem ok_settled {fW:Addr} {dW:FuncData} {D:Nat} (F:Fun K "settled" "settled" sSettled f fd) (GW:FnOk P w K mg base CX0 (3+2*D) fW dW ["hall","rooms","known"] (spWon D)) (bW:Binds K dW ["hall","rooms","known"] []) (kW:PySem.W.keepIn K (.ref fW) = true) (mW:mg "won_part" = some (.ref fW))
    (ml:mg "len" = none) (mt:mg "tuple" = none):FnOk P w K mg base CX0 (4+2*D) f fd ["hall","rooms","known"] (spSettled D):=by
  rw [show 4+2*D = (3+2*D)+1 by omega]
  refine F.ok scSettled (fun vs H Q E h=>?_) (fun cdv A outer s H vs Q E hr h=>?_)
  · refine xe5 h fun l rl kn hs R y123=>?_
    obtain ⟨rfl,_⟩:=y123
    rfl
  refine xe5 h fun l rl kn hs R y125=>?_
  obtain ⟨rfl,⟨hA,hR,hK,hH,sub,lv,hrk⟩,qq⟩:=y125
  have hu:=hu_of hr
  refine ⟨_,pss_cons (ps_set (i:=3) scSettled.nd rfl (Or.inl rfl) (pe_callTy call_tuple_of rfl mt PyProof.Rows.boot_tuple (pa_cons (pv 1) pa_nil)))
    (pss_cut (midK l rl kn hs R H) (ps_if (pt_cmp (pc_dnotin hu (pv 3) (pv 2)))
      (pss_cons (ps_set (i:=4) scSettled.nd rfl (Or.inr rfl) pe_dnewK)
      (pss_cons (ps_set (i:=5) scSettled.nd rfl (Or.inl rfl) (pv 1))
      (pss_cons (ps_while PassesOwn.never (pt_cmpR op_gt (pe_callB call_len_seq rfl ml PySem.boot_len (pa_cons (pv 5) pa_nil)) pe_int (nomark _))
        (pss_cons (ps_expr (pe_bm PySem.F.plainAttrs_dict PySem.F.slot_dict_update PySem.F.type_dict_update mt_dupdate (pv 4) (pa_cons (pe_call GW hr rfl mW kW bW .nil pass0 (pa_cons (pv 0) (pa_cons (pv 5) (pa_cons (pv 2) pa_nil)))) pa_nil)))
        (pss_one (ps_comp (i:=5) scSettled.nd rfl (Or.inl rfl) (N:=["room","told"]) (capt:=[none,some 4]) rfl (pi_list (pv 5)) rfl (by repeat (first | exact .nil | refine .cons rfl ?_))
          (by repeat (first | exact .nil | refine .skip (by decide) (by decide) ?_ | refine .free ⟨_,rfl⟩ ?_)) (.tgt (.var rfl (.inl rfl) ⟨_,rfl⟩ (.inl rfl) .nil))
          (fun _ _ _ _ _=>pg_name (i:=0) ndRT rfl (Or.inl rfl)) (fun _ _ _ _ _=>pif_one (pt_cmp (pc_dnotin hu (pv 0) (pv 1)))) (fun _ _ _ _ _=>pv 0)))))
      (pss_one (ps_dput hu (pv 2) (pv 3) (pe_frz (pv 4)) rfl))))) pss_nil)
    (pss_one (ps_ret (pe_dget hu (pv 2) (pv 3) (fun _ _=>rfl))))),?_⟩
  first | dsimp only [nxK,nxP,nxW] | skip
  have rms:=hH.sub sub
  have lR:=rms.len
  have km:(R.map Sum.inl:List Key).map kV = R.map V.int:=by
    rw [List.map_map]
    rfl
  refine (xr0 rfl (xn2 rl _ ⟨rfl,.inl ⟨SqL.of hR,fun kt hkt=>?_⟩⟩))
  have s1:=same_new hkt (.tup (R.map V.int))
  have ekt:(upd H kt (.tup (R.map V.int))) kt = some (.tup ((R.map Sum.inl:List Key).map kV)):=by rw [km]; exact upd_same
  generalize upd H kt (.tup (R.map V.int)) = H1 at s1 ekt
  obtain ⟨kvs,hk,hkn,hkv⟩:=id (hK.same s1)
  refine ⟨?_,?_⟩
  · refine (xr0 rfl (xr0 rfl (xn2 kn _ ⟨rfl,.inr ⟨kvs,R.map Sum.inl,kt,.inl hk,rfl,ekt,rfl⟩,xr0 rfl ?_⟩)))
    cases hsome:(valV kvs (R.map Sum.inl)).isSome with
    | true =>
      refine iteF ?_
      exact ⟨kt,_,_,kvs,rfl,s1.x,hK.same s1,by rw [ekt,km],hk,hsome⟩
    | false =>
    refine iteT ?_
    intro td htd
    have s2:=same_new htd (.dK [])
    have htk:td≠kn:=fun e=>by rw [e,hk] at htd; cases htd
    refine (xr0 rfl ?_)
    refine ⟨fun m σ H2=>∃ (lf:Addr) (Lf Lk:List Int) (ta:Int→Addr) (ha:Int→Int) (mo:Int→Option Int),m = Lf.length∧σ = [some (.ref l),some (.ref rl),some (.ref kn),some (.ref kt),some (.ref td),some (.ref lf)]∧SameX kn H1 H2∧KnownAt H2 kn hs∧H2 lf = some (.lst (Lf.map V.int))∧Lf.Sublist R∧Zi.Live (wyH hs) Lf ∧
        H2 td = some (.dK (dI Lk fun r=>.ref (ta r)))∧Lk.Nodup∧(∀ r,r∈Lk↔r∈R∧r∉Lf)∧Told H2 Lk ta ha mo∧Zi.Ext (wyH hs) (hdH hs) (rkH hs) R Lf ha mo,
      ⟨_,rl,R,[],fun _=>0,fun _=>0,fun _=>none,rfl,rfl,s2.x,(hK.same s1).same s2,(s1.trans s2) _ _ hR,List.Sublist.refl _,lv,upd_same,by simp,fun r=>by simp,fun r hr=>by simp at hr,Zi.Ext.start _ _⟩,?_⟩
    rintro m σ H2 ⟨lf,Lf,Lk,ta,ha,mo,rfl,rfl,sx2,hK2,hlf,lsub,llv,htd2,ndk,memk,htl,hext⟩
    have hA2:HallAt H2 l hs:=HallAt.sx (hA.same s1) hk sx2
    have lk:Lk.length≤R.length:=nodup_le ndk fun x hx=>((memk x).mp hx).1
    have llf:Lf.length≤R.length:=lsub.length_le
    refine (xr0 rfl (xn2 lf _ ⟨rfl,.inl (SqL.of hlf),xr2 rfl rfl (xr0 rfl ?_)⟩))
    rw [List.length_map]
    by_cases hz:Lf = []
    · subst hz
      refine iteF ?_
      obtain ⟨kvs2,hk2,hkn2,hkv2⟩:=id hK2
      have hSol:SolH hs R ha mo:=hext.done
      refine (xr0 rfl (xn2 td _ ⟨rfl,htd2,fun o=>?_⟩))
      have hkn3:(upd H2 td (.frz o (.dK (dI Lk fun r=>.ref (ta r))))) kn = some (.dT kvs2):=by rw [upd_ne htk.symm]; exact hk2
      have ekt3:(upd H2 td (.frz o (.dK (dI Lk fun r=>.ref (ta r))))) kt = some (.tup ((R.map Sum.inl:List Key).map kV)):=by
        have e2:=sx_keep hk sx2 ekt (by intro z; cases z)
        rw [upd_ne (ne_of e2 htd2 (by intro z; cases z))]
        exact e2
      have kd:∀ {b:Addr} {u:HO},H2 b = some u→u≠.dK (dI Lk fun r=>.ref (ta r))→u≠.dT kvs2→(upd (upd H2 td (.frz o (.dK (dI Lk fun r=>.ref (ta r))))) kn (.dT (putK kvs2 (R.map Sum.inl) (.ref td)))) b = some u:=fun e n1 n2=>by
        rw [upd_ne (ne_of e hk2 n2),upd_ne (ne_of e htd2 n1)]
        exact e
      have kTold:∀ {d:Addr} {R':List Int} {ha':Int→Int} {mo':Int→Option Int},ToldAt H2 d R' ha' mo'→ToldAt (upd (upd H2 td (.frz o (.dK (dI Lk fun r=>.ref (ta r))))) kn (.dT (putK kvs2 (R.map Sum.inl) (.ref td)))) d R' ha' mo':=fun ⟨o',L',t',a1,a2,a3,a4⟩ =>
        ⟨o',L',t',kd a1 (by intro z; cases z) (by intro z; cases z),a2,a3,a4.tups fun b xs e=>kd e (by intro z; cases z) (by intro z; cases z)⟩
      have newT:ToldAt (upd (upd H2 td (.frz o (.dK (dI Lk fun r=>.ref (ta r))))) kn (.dT (putK kvs2 (R.map Sum.inl) (.ref td)))) td R ha mo:=by
        refine ⟨o,Lk,ta,by rw [upd_ne htk,upd_same],ndk,fun r=>?_,htl.tups fun b xs e=>kd e (by intro z; cases z) (by intro z; cases z)⟩
        rw [memk]
        simp
      refine ⟨_,rfl,_,rfl,kn,_,rfl,.inr ⟨kvs2,R.map Sum.inl,kt,hkn3,rfl,ekt3,KnownAt.few hH hkn2 hkv2,rfl⟩,?_⟩
      refine ⟨kt,_,_,putK kvs2 (R.map Sum.inl) (.ref td),rfl,fun b u e n=>?_,⟨_,upd_same,putT_keys hkn2,fun kv hkv'=>?_⟩,?_,upd_same,putT_val⟩
      · have e1:=s1 _ _ e
        have e2:=sx2 b u e1 n
        rw [upd_ne n,upd_ne (fun y=>by rw [y,htd] at e1; cases e1)]
        exact e2
      · rcases putT_mem hkv' with rfl | hin
        · exact ⟨R,td,ha,mo,rfl,sub,rfl,newT,hSol,lv⟩
        · obtain ⟨R',d',ha',mo',c1,c2,c3,c4,c5⟩:=hkv2 kv hin
          exact ⟨R',d',ha',mo',c1,c2,c3,kTold c4,c5⟩
      · rw [upd_ne (ne_of ekt3 hkn3 (by intro z; cases z)),ekt3,km]
    · have lp:0 < Lf.length:=List.length_pos_iff.mpr hz
      rw [decide_eq_true (show ((Lf.length:Nat):Int) > 0 by exact Int.ofNat_lt.mpr ‹_›)]
      refine iteT ⟨fun σ' H'=>∃ m',m' < Lf.length∧∃ (lf:Addr) (Lf Lk:List Int) (ta:Int→Addr) (ha:Int→Int) (mo:Int→Option Int),m' = Lf.length∧σ' = [some (.ref l),some (.ref rl),some (.ref kn),some (.ref kt),some (.ref td),some (.ref lf)]∧SameX kn H1 H'∧KnownAt H' kn hs∧H' lf = some (.lst (Lf.map V.int))∧Lf.Sublist R∧Zi.Live (wyH hs) Lf ∧
        H' td = some (.dK (dI Lk fun r=>.ref (ta r)))∧Lk.Nodup∧(∀ r,r∈Lk↔r∈R∧r∉Lf)∧Told H' Lk ta ha mo∧Zi.Ext (wyH hs) (hdH hs) (rkH hs) R Lf ha mo,fun σ' H' z=>z,?_⟩
      refine (xr0 rfl ⟨.inr (.inr (.inl ⟨rfl,.inl ⟨_,htd2⟩⟩)),xr0 rfl (xr0 rfl (xr0 rfl (xn5 l lf kn hs Lf ⟨rfl,⟨hA2,hlf,hK2,hH,lsub.trans sub,llv,fun r hr=>hrk r (lsub.subset hr)⟩,hz,fun d L tb j mp H3 sx3 hK3 hd hd2 ndL neL htb hP=>?_⟩)))⟩)
      obtain ⟨kvs2,hk2,_⟩:=id hK2
      have htd3:H3 td = some (.dK (dI Lk fun r=>.ref (ta r))):=sx3 _ _ htd2 htk
      have hlf3:H3 lf = some (.lst (Lf.map V.int)):=sx_keep hk2 sx3 hlf (by intro z; cases z)
      have htl3:=htl.sx hk2 sx3
      have ntd:td≠d:=fun e=>by rw [← e,htd2] at hd; cases hd
      have ndq:(Lk++L).Nodup:=List.nodup_append.mpr ⟨ndk,ndL,fun x hx y hy e=>((memk x).mp hx).2 (e▸hP.sub y hy)⟩
      have lL:L.length≤Lf.length:=nodup_le ndL hP.sub
      refine (xn4 td d _ _ ⟨rfl,rfl,htd3,.inl hd2,ntd,by rw [dI_len,dI_len]; omega,?_⟩)
      rw [merge_two ndq]
      have ef:(fun r=>if r∈L then V.ref (tb r) else V.ref (ta r)) = fun r=>V.ref (if r∈L then tb r else ta r):=by
        funext x
        split<;>rfl
      rw [ef]
      have k4:∀ {b:Addr} {u:HO},H3 b = some u→u≠.dK (dI Lk fun r=>.ref (ta r))→(upd H3 td (.dK (dI (Lk++L) fun r=>V.ref (if r∈L then tb r else ta r)))) b = some u:=fun e n=>by
        rw [upd_ne (ne_of e htd3 n)]
        exact e
      have hlf4:=k4 hlf3 (by intro z; cases z)
      have htd4:(upd H3 td (.dK (dI (Lk++L) fun r=>V.ref (if r∈L then tb r else ta r)))) td = some (.dK (dI (Lk++L) fun r=>V.ref (if r∈L then tb r else ta r))):=upd_same
      have told4:Told (upd H3 td (.dK (dI (Lk++L) fun r=>V.ref (if r∈L then tb r else ta r)))) (Lk++L) (fun r=>if r∈L then tb r else ta r) (fun r=>if r∈L then j else ha r) (fun r=>if r∈L then mp r else mo r):=fun r hr=>by
        by_cases y:r∈L
        · simp only [if_pos y]
          exact k4 (htb r y) (by intro z; cases z)
        · simp only [if_neg y]
          exact k4 (htl3 r ((List.mem_append.mp hr).resolve_right y)) (by intro z; cases z)
      have hK4:KnownAt (upd H3 td (.dK (dI (Lk++L) fun r=>V.ref (if r∈L then tb r else ta r)))) kn hs:=by
        obtain ⟨kv3,b1,b2,b3⟩:=hK3
        refine ⟨kv3,k4 b1 (by intro z; cases z),b2,fun kv hkv'=>?_⟩
        obtain ⟨R',d',ha',mo',c1,c2,c3,⟨o',L',t',a1,a2,a3,a4⟩,c5⟩:=b3 kv hkv'
        exact ⟨R',d',ha',mo',c1,c2,c3,⟨o',L',t',k4 a1 (by intro z; cases z),a2,a3,a4.tups fun b xs e=>k4 e (by intro z; cases z)⟩,c5⟩
      have sx4:SameX kn H1 (upd H3 td (.dK (dI (Lk++L) fun r=>V.ref (if r∈L then tb r else ta r)))):=fun b u e n=>by
        rw [upd_ne (fun y=>by rw [y,htd] at e; cases e)]
        exact sx3 b u (sx2 b u e n) n
      generalize upd H3 td (.dK (dI (Lk++L) fun r=>V.ref (if r∈L then tb r else ta r))) = H4 at hlf4 htd4 told4 hK4 sx4
      refine (xr0 rfl ⟨lf,rfl,⟨_,SqL.of hlf4⟩,?_⟩)
      refine comp_list (K:=K) (a:=lf) (xs:=Lf.map V.int) (fun D i ys H5=>Same H4 H5∧H4 D = none∧H5 D = some (.lst ys)∧ys = ((Lf.take i).filter fun r=>decide (r∉L)).map V.int) ?_ ?_ ?_ ?_
      · exact fun D hD=>⟨same_new hD _,hD,upd_same,rfl⟩
      · rintro D i ys H5 hi ⟨sm,hD,h5,ey⟩
        refine ⟨SqL.of (sm _ _ hlf4),h5,fun _=>small1000 ?_⟩
        rw [ey,List.length_map]
        refine Nat.le_trans (List.length_filter_le _ _) ?_
        rw [List.length_take]
        omega
      · rintro D i x ys H5 hx ⟨sm,hD,h5,ey⟩
        rw [List.getElem?_map] at hx
        obtain ⟨r,hr',exr⟩:=Option.map_eq_some_iff.mp hx
        subst exr
        obtain ⟨hi,er⟩:=List.getElem?_eq_some_iff.mp hr'
        have hrf:=List.mem_of_getElem? hr'
        have hnk:r∉Lk:=fun y=>((memk r).mp y).2 hrf
        refine ⟨⟨rfl,trivial⟩,_,rfl,_,rfl,td,_,rfl,DGet.k (k:=Sum.inl r) (sm _ _ htd4),_,rfl,?_⟩
        rw [val_dI]
        by_cases c:r∈L
        · rw [if_pos (List.mem_append_right _ c)]
          refine iteF ⟨sm,hD,h5,?_⟩
          rw [ey,List.take_succ_eq_append_getElem hi,er,List.filter_append,List.filter_cons,if_neg (fun e=>(of_decide_eq_true e) c)]
          simp
        · rw [if_neg (fun y=>(List.mem_append.mp y).elim hnk c)]
          refine iteT (xr0 rfl ⟨h5,fun b u e=>?_,hD,upd_same,?_⟩)
          · rw [upd_ne (ne_of_none e hD)]
            exact sm _ _ e
          · rw [ey,List.take_succ_eq_append_getElem hi,er,List.filter_append,List.filter_cons,if_pos (decide_eq_true c),List.map_append]
            rfl
      · rintro D2 ys H5 ⟨sm,hD,h5,ey⟩
        rw [List.length_map,List.take_length] at ey
        have ey2:ys = (Zi.left Lf L).map V.int:=ey
        subst ey2
        have hlt:(Zi.left Lf L).length < Lf.length:=by
          obtain ⟨y,hy⟩:=List.exists_mem_of_ne_nil _ neL
          refine Nat.lt_of_le_of_ne (List.length_filter_le _ _) fun e=>?_
          have he:Zi.left Lf L = Lf:=List.Sublist.eq_of_length List.filter_sublist e
          have hyl:y∈Zi.left Lf L:=by rw [he]; exact hP.sub y hy
          exact (Zi.mem_left.mp hyl).2 hy
        refine ⟨_,hlt,D2,Zi.left Lf L,Lk++L,fun r=>if r∈L then tb r else ta r,fun r=>if r∈L then j else ha r,fun r=>if r∈L then mp r else mo r,rfl,rfl,fun b u e n=>sm _ _ (sx4 b u e n),hK4.same sm,h5,(List.filter_sublist).trans lsub,hP.liv,sm _ _ htd4,ndq,fun r=>?_,told4.tups fun b xs e=>sm _ _ e,hext.step (fun r hr=>hH.bit r (sub.subset (lsub.subset hr))) hP⟩
        rw [List.mem_append,memk,Zi.mem_left]
        constructor
        · rintro (⟨a,b⟩ | a)
          · exact ⟨a,fun z=>b z.1⟩
          · exact ⟨lsub.subset (hP.sub r a),fun z=>z.2 a⟩
        · rintro ⟨a,b⟩
          by_cases y:r∈L
          · exact .inr y
          · exact .inl ⟨a,fun z=>b ⟨z,y⟩⟩
  · rintro σ' H2 z288
    refine xe4 z288 fun kt2 x4 x5 kvs2 y288=>?_
    obtain ⟨rfl,sx2,hK2,ekt2,hk2,hsome⟩:=y288
    obtain ⟨v,hv⟩:=Option.isSome_iff_exists.mp hsome
    obtain ⟨kvs3,hk3,hkn3,hkv3⟩:=id hK2
    rw [hk2] at hk3
    cases hk3
    obtain ⟨R',d,ha,mo,c1,c2,c3,c4,c5⟩:=hkv3 _ (valT_mem hv)
    have eR:R = R':=inl_inj c1
    subst eR
    have ev:v = .ref d:=c3
    subst ev
    refine (xr0 rfl (xr0 rfl (xn2 kn (V.ref d) ⟨rfl,.inr ⟨kvs2,R.map Sum.inl,kt2,.inl hk2,rfl,by rw [ekt2,km],hv.symm⟩,?_⟩)))
    exact qq d ha mo H2 sx2 hK2 c4 c5.1
theorem ok_both {fW fS fD fL:Addr} {dW dS dD dL:FuncData} (FW:Fun K "won_part" "won_part" sWonPart fW dW) (FS:Fun K "settled" "settled" sSettled fS dS)
    (bW:Binds K dW ["hall","rooms","known"] []) (kW:PySem.W.keepIn K (.ref fW) = true) (mW:mg "won_part" = some (.ref fW)) (bS:Binds K dS ["hall","rooms","known"] []) (kS:PySem.W.keepIn K (.ref fS) = true) (mS:mg "settled" = some (.ref fS))
    (GD:FnOk P w K mg base CX0 2 fD dD ["hall","rooms","hand","goal"] (spDrawn K)) (bD:Binds K dD ["hall","rooms","hand","goal"] []) (kD:PySem.W.keepIn K (.ref fD) = true) (mD:mg "drawn" = some (.ref fD))
    (GL:FnOk P w K mg base CX0 2 fL dL ["hall","rooms","hand","steps"] (spLed K)) (bL:Binds K dL ["hall","rooms","hand","steps"] []) (kL:PySem.W.keepIn K (.ref fL) = true) (mL:mg "led" = some (.ref fL))
    (mx:mg "max" = none) (ml:mg "len" = none) (md:mg "dict" = none) (mt:mg "tuple" = none):∀ D:Nat,FnOk P w K mg base CX0 (3+2*D) fW dW ["hall","rooms","known"] (spWon D)∧FnOk P w K mg base CX0 (4+2*D) fS dS ["hall","rooms","known"] (spSettled D):=by
  intro D
  induction D with
  | zero =>
    have w0:FnOk P w K mg base CX0 (3+2*0) fW dW ["hall","rooms","known"] (spWon 0):=by
      refine FW.ok (k:=2) scWon (fun vs H Q E h=>?_) (fun cdv A outer s H vs Q E hr h=>?_)
      · refine xe5 h fun l rl kn hs R y311=>?_
        obtain ⟨rfl,_⟩:=y311
        rfl
      · exfalso
        refine xe5 h fun l rl kn hs R y314=>?_
        obtain ⟨rfl,⟨_,_,_,hH,sub,_,hrk⟩,hne,_⟩:=y314
        obtain ⟨r,hr'⟩:=List.exists_mem_of_ne_nil _ hne
        have h1:=hrk r hr'
        have h2:=hH.rk0 r (sub.subset hr')
        omega
    exact ⟨w0,ok_settled FS w0 bW kW mW ml mt⟩
  | succ D ih =>
    have w1:=ok_won FW GD bD kD mD ih.2 bS kS mS GL bL kL mL mx ml md
    rw [show 5+2*D = 3+2*(D+1) by omega] at w1
    exact ⟨w1,ok_settled FS w1 bW kW mW ml mt⟩
end
end Law

namespace Law
open PySem L2
section
seal PA PE PS PSs PT PI PG PGs PIf
variable {P:Program} {w:World} {K:PySem.W.Frag} {mg:Str→Option Value} {base:Heap} {f g:Addr} {fd gd:FuncData}
structure Hw (hs:List Mi.Room) (D:Nat):Prop where
  hl:Hl hs
  liv:Zi.Live (wyH hs) (rngI hs.length)
  rk1:∀ r∈rngI hs.length,rkH hs r < (D:Int)
def Found (H:Hp) (t a b:Addr) (hs:List Mi.Room) (ha:Int→Int) (mo:Int→Option Int):Prop:=H t = some (.tup [.ref a,.ref b])∧H a = some (.lst ((rngI hs.length).map fun r=>V.int (ha r)))∧H b = some (.lst ((rngI hs.length).map fun r=>mvV (mo r)))∧a≠b
def spSolved (D:Nat):Sp:=fun vs H Q _=>∃ (l:Addr) (hs:List Mi.Room),vs = [.ref l]∧HallAt H l hs∧Hw hs D∧∀ t a b ha mo H',Same H H'→H t = none→H a = none→H b = none→Found H' t a b hs ha mo→SolH hs (rngI hs.length) ha mo→Q (.ref t) H'
theorem scSolved:FnScope ["hall","rooms","told"] ["hall"] (defScope sSolved):=⟨rfl,rfl,rfl,by decide +kernel,rfl,by decide +kernel,by decide +kernel⟩
theorem ok_solved {fS:Addr} {dS:FuncData} {D:Nat} (F:Fun K "solved" "solved" sSolved f fd) (GS:FnOk P w K mg base CX0 (4+2*D) fS dS ["hall","rooms","known"] (spSettled D)) (bS:Binds K dS ["hall","rooms","known"] []) (kS:PySem.W.keepIn K (.ref fS) = true) (mS:mg "settled" = some (.ref fS))
    (ml:mg "len" = none) (mli:mg "list" = none) (mr:mg "range" = none):FnOk P w K mg base CX0 (5+2*D) f fd ["hall"] (spSolved D):=by
  rw [show 5+2*D = (4+2*D)+1 by omega]
  refine F.ok scSolved (fun vs H Q E h=>?_) (fun cdv A outer s H vs Q E hr h=>?_)
  · refine xe2 h fun l hs y21=>?_
    obtain ⟨rfl,_⟩:=y21
    rfl
  refine xe2 h fun l hs y23=>?_
  obtain ⟨rfl,hA,hw,qq⟩:=y23
  have hu:=hu_of hr
  refine ⟨_,pss_cons (ps_set (i:=1) scSolved.nd rfl (Or.inl rfl) (pe_callTy (call_listR rfl) rfl mli PyProof.Rows.boot_list (pa_cons (pe_callTy call_range1 rfl mr PyProof.Rows.boot_range (pa_cons (pe_callB call_len_seq rfl ml PySem.boot_len (pa_cons (pv 0) pa_nil)) pa_nil)) pa_nil)))
    (pss_cons (ps_set (i:=2) scSolved.nd rfl (Or.inr rfl) (pe_call GS hr rfl mS kS bS .nil pass0 (pa_cons (pv 0) (pa_cons (pv 1) (pa_cons pe_dnewT pa_nil)))))
    (pss_one (ps_ret (pe_tup (pa_cons (pe_comp (N:=["room","told"]) (capt:=[none,some 2]) rfl (pi_list (pv 1)) rfl (by repeat (first | exact .nil | refine .cons rfl ?_))
          (by repeat (first | exact .nil | refine .skip (by decide) (by decide) ?_ | refine .free ⟨_,rfl⟩ ?_)) (.tgt (.var rfl (.inl rfl) ⟨_,rfl⟩ (.inl rfl) .nil))
          (fun _ _ _ _ _=>pg_name (i:=0) ndRT rfl (Or.inl rfl)) (fun _ _ _ _ _=>pif_nil) (fun _ _ _ _ _=>pe_ix (ixT K) (pe_dget hu (pv 1) (pv 0) (fun _ _=>rfl)) pe_int (fun _ _=>rfl)))
        (pa_cons (pe_comp (N:=["room","told"]) (capt:=[none,some 2]) rfl (pi_list (pv 1)) rfl (by repeat (first | exact .nil | refine .cons rfl ?_))
          (by repeat (first | exact .nil | refine .skip (by decide) (by decide) ?_ | refine .free ⟨_,rfl⟩ ?_)) (.tgt (.var rfl (.inl rfl) ⟨_,rfl⟩ (.inl rfl) .nil))
          (fun _ _ _ _ _=>pg_name (i:=0) ndRT rfl (Or.inl rfl)) (fun _ _ _ _ _=>pif_nil) (fun _ _ _ _ _=>pe_ix (ixT K) (pe_dget hu (pv 1) (pv 0) (fun _ _=>rfl)) pe_int (fun _ _=>rfl))) pa_nil)))))),?_⟩
  first | dsimp only [nxK,nxP,nxW] | skip
  obtain ⟨vs,el,pr⟩:=id hA
  have lv:hs.length = vs.length:=Paired.length pr
  have lh:=hw.hl.rms.hl
  refine (xr0 rfl (xn2 l vs ⟨rfl,.inl (SqL.of el),?_⟩))
  rw [← lv]
  refine (xr0 rfl (fun p5 hp5=>(xn3 _ _ _ ⟨rfl,upd_same,⟨by omega,by omega,by omega,by omega⟩,by omega,fun rl hrl=>?_⟩)))
  have er:((List.range (((hs.length:Nat):Int) - 0).toNat).map fun (i:Nat)=>V.int (0+(i:Int))) = (rngI hs.length).map V.int:=by
    rw [rngI,List.map_map,show (((hs.length:Nat):Int) - 0).toNat = hs.length by omega]
    exact List.map_congr_left fun i _=>by simp
  rw [er]
  have s2:=(same_new hp5 (.rng 0 ((hs.length:Nat):Int))).trans (same_new hrl (.lst ((rngI hs.length).map V.int)))
  have erl:(upd (upd H p5 (.rng 0 ((hs.length:Nat):Int))) rl (.lst ((rngI hs.length).map V.int))) rl = some (.lst ((rngI hs.length).map V.int)):=upd_same
  generalize upd (upd H p5 (.rng 0 ((hs.length:Nat):Int))) rl (.lst ((rngI hs.length).map V.int)) = H2 at s2 erl
  refine (xr0 rfl (xr0 rfl (fun kn hkn=>?_)))
  have s3:=same_new hkn (.dT [])
  have ekn:(upd H2 kn (.dT [])) kn = some (.dT []):=upd_same
  have hK:KnownAt (upd H2 kn (.dT [])) kn hs:=⟨[],ekn,by simp,fun kv h=>by simp at h⟩
  generalize upd H2 kn (.dT []) = H3 at s3 ekn hK
  have s23:=s2.trans s3
  refine ⟨l,rl,kn,hs,rngI hs.length,rfl,⟨hA.same s23,s3 _ _ erl,hK,hw.hl,List.Sublist.refl _,hw.liv,hw.rk1⟩,fun d ha mo H4 sx hK4 hT hSol=>?_⟩
  have kp:∀ {b:Addr} {u:HO},H2 b = some u→H4 b = some u:=fun {b} {u} e=>sx _ _ (s3 _ _ e) (ne_of_none e hkn)
  have s24:Same H H4:=fun b u e=>kp (s2 _ _ e)
  have erl4:=kp erl
  obtain ⟨o,L,ta,hd,ndL,memL,hTd⟩:=hT
  have lkp:∀ {H':Hp},Same H4 H'→∀ r∈rngI hs.length,DGet H' d (.int r) (some (.ref (ta r)))∧H' (ta r) = some (.tup [.int (ha r),mvV (mo r)]):=fun sm r hr=>by
    refine ⟨.inl ⟨_,.inl r,.inr ⟨o,sm _ _ hd⟩,rfl,?_⟩,sm _ _ (hTd r ((memL r).mpr hr))⟩
    rw [val_dI,if_pos ((memL r).mpr hr)]
  refine (xr0 rfl ⟨rl,rfl,⟨_,SqL.of erl4⟩,?_⟩)
  refine comp_list (K:=K) (a:=rl) (xs:=(rngI hs.length).map V.int) (fun D i ys H5=>Same H4 H5∧H4 D = none∧H5 D = some (.lst ys)∧ys = ((rngI hs.length).take i).map fun r=>V.int (ha r)) ?_ ?_ ?_ ?_
  · exact fun D hD=>⟨same_new hD _,hD,upd_same,rfl⟩
  · rintro D i ys H5 hi ⟨sm,hD,h5,ey⟩
    refine ⟨SqL.of (sm _ _ erl4),h5,fun _=>small1000 ?_⟩
    rw [ey,List.length_map,List.length_take,rngI_len]
    omega
  · rintro D i x ys H5 hx ⟨sm,hD,h5,ey⟩
    rw [List.getElem?_map] at hx
    obtain ⟨r,hr',exr⟩:=Option.map_eq_some_iff.mp hx
    subst exr
    obtain ⟨hi,er⟩:=List.getElem?_eq_some_iff.mp hr'
    obtain ⟨g1,g2⟩:=lkp sm r (List.mem_of_getElem? hr')
    refine ⟨⟨rfl,trivial⟩,_,rfl,_,rfl,d,_,rfl,g1,ta r,_,_,_,rfl,rfl,SqT.of g2,(show atI [V.int (ha r),mvV (mo r)] 0 = some _ from rfl),h5,fun b u e=>?_,hD,upd_same,?_⟩
    · rw [upd_ne (ne_of_none e hD)]
      exact sm _ _ e
    · rw [ey,List.take_succ_eq_append_getElem hi,er,List.map_append]
      rfl
  rintro a ys H5 ⟨s5,ha0,ha5,ey⟩
  rw [List.length_map,List.take_length] at ey
  subst ey
  refine (xr0 rfl ⟨rl,rfl,⟨_,SqL.of (s5 _ _ erl4)⟩,?_⟩)
  refine comp_list (K:=K) (a:=rl) (xs:=(rngI hs.length).map V.int) (fun D i ys H6=>Same H5 H6∧H5 D = none∧H6 D = some (.lst ys)∧ys = ((rngI hs.length).take i).map fun r=>mvV (mo r)) ?_ ?_ ?_ ?_
  · exact fun D hD=>⟨same_new hD _,hD,upd_same,rfl⟩
  · rintro D i ys H6 hi ⟨sm,hD,h5,ey⟩
    refine ⟨SqL.of (sm _ _ (s5 _ _ erl4)),h5,fun _=>small1000 ?_⟩
    rw [ey,List.length_map,List.length_take,rngI_len]
    omega
  · rintro D i x ys H6 hx ⟨sm,hD,h5,ey⟩
    rw [List.getElem?_map] at hx
    obtain ⟨r,hr',exr⟩:=Option.map_eq_some_iff.mp hx
    subst exr
    obtain ⟨hi,er⟩:=List.getElem?_eq_some_iff.mp hr'
    obtain ⟨g1,g2⟩:=lkp (s5.trans sm) r (List.mem_of_getElem? hr')
    refine ⟨⟨rfl,trivial⟩,_,rfl,_,rfl,d,_,rfl,g1,ta r,_,_,_,rfl,rfl,SqT.of g2,(show atI [V.int (ha r),mvV (mo r)] 1 = some _ from rfl),h5,fun b u e=>?_,hD,upd_same,?_⟩
    · rw [upd_ne (ne_of_none e hD)]
      exact sm _ _ e
    · rw [ey,List.take_succ_eq_append_getElem hi,er,List.map_append]
      rfl
  rintro b ys H6 ⟨s6,hb0,hb6,ey⟩
  rw [List.length_map,List.take_length] at ey
  subst ey
  refine ⟨by show 2≤sizeLine; decide,fun t ht=>?_⟩
  have s7:=same_new ht (.tup [.ref a,.ref b])
  refine qq t a b ha mo _ (s24.trans (s5.trans (s6.trans s7))) (s24.free (s5.free (s6.free ht))) (s24.free ha0) (s24.free (s5.free hb0)) ⟨upd_same,s7 _ _ (s6 _ _ ha5),s7 _ _ hb6,fun e=>?_⟩ hSol
  rw [e,hb0] at ha5
  cases ha5
end
end Law

namespace Law
open PySem L2
abbrev sRoom:Stmt:=top 52
abbrev sHall:Stmt:=top 53
section
seal PA PE PS PSs PT PI PG PGs PIf
variable {P:Program} {w:World} {K:PySem.W.Frag} {mg:Str→Option Value} {base:Heap} {f g:Addr} {fd gd:FuncData}
def spRoom:Sp:=fun vs H Q _=>∃ (c m r:Int),vs = [.int c,.int m,.int r]∧0 < m∧m≤80∧0 < r∧∀ v H',Same H H'→RoomAt H' (Mi.room c m r) v→Q v H'
theorem scRoom:FnScope ["cell","many","ranks","first","second","third","ways"] ["cell","many","ranks"] (defScope sRoom):=⟨rfl,rfl,rfl,by decide +kernel,rfl,by decide +kernel,by decide +kernel⟩
theorem ok_room (F:Fun K "_law_room" "_law_room" sRoom f fd) (m1:mg "sorted" = none) (m2:mg "set" = none) (m3:mg "list" = none) (m4:mg "range" = none) (m5:mg "tuple" = none):FnOk P w K mg base CX0 1 f fd ["cell","many","ranks"] spRoom:=by
  refine F.ok scRoom (fun vs H Q E h=>?_) (fun cdv A outer s H vs Q E hr h=>?_)
  · obtain ⟨c,m,r,rfl,_⟩:=h
    rfl
  obtain ⟨c,m,r,rfl,m0,m80,r0,q⟩:=h
  refine ⟨_,pss_cons (ps_set (i:=3) scRoom.nd rfl (Or.inl rfl) (pe_op op_mod (pe_op op_fdiv (pv 0) pe_int) (pv 1)))
    (pss_cons (ps_set (i:=4) scRoom.nd rfl (Or.inl rfl) (pe_op op_mod (pe_op op_fdiv (pv 0) pe_int) (pv 1)))
    (pss_cons (ps_set (i:=5) scRoom.nd rfl (Or.inl rfl) (pe_op op_mod (pe_op op_fdiv (pv 0) pe_int) (pv 1)))
    (pss_cons (ps_set (i:=6) scRoom.nd rfl (Or.inl rfl) (pe_callB (call_sortedS rfl) rfl m1 PyProof.Rows.boot_sorted (pa_cons (pe_callTy (call_setL rfl) rfl m2 PyProof.Rows.boot_set (pa_cons
      (pe_slice sl_list (pe_lst (pa_cons (pv 3) (pa_cons (pv 4) (pa_cons (pv 5) pa_nil)))) po_none (po_some (pe_op op_add pe_int (pe_op op_mod (pe_op op_fdiv (pv 0) pe_int) pe_int)))) pa_nil)) pa_nil)))
    (pss_cons (ps_if (pt_cmpR op_eq (pe_op op_mod (pe_op op_fdiv (pv 0) pe_int) pe_int) pe_int (nomark _))
      (pss_one (ps_set (i:=6) scRoom.nd rfl (Or.inl rfl) (pe_callTy (call_listR rfl) rfl m3 PyProof.Rows.boot_list (pa_cons (pe_callTy call_range2 rfl m4 PyProof.Rows.boot_range (pa_cons (pv 3) (pa_cons (pv 1) pa_nil))) pa_nil)))) pss_nil)
    (pss_one (ps_ret (pe_tup (pa_cons (pe_op op_mod (pv 0) pe_int) (pa_cons (pe_op op_mod (pe_op op_fdiv (pv 0) pe_int) (pv 2)) (pa_cons (pe_callTy call_tuple_of rfl m5 PyProof.Rows.boot_tuple (pa_cons (pv 6) pa_nil)) pa_nil)))))))))),?_⟩
  refine ⟨_,rfl,_,_,rfl,rfl,⟨by decide,by decide⟩,_,rfl,_,_,rfl,rfl,m0,?_⟩
  refine ⟨_,rfl,_,_,rfl,rfl,⟨by decide,by decide⟩,_,rfl,_,_,rfl,rfl,m0,?_⟩
  refine ⟨_,rfl,_,_,rfl,rfl,⟨by decide,by decide⟩,_,rfl,_,_,rfl,rfl,m0,?_⟩
  have m80':m < 1073741824:=by omega
  have b1:=Int.emod_nonneg (c / 32) (show m≠0 by omega)
  have b2:=Int.emod_lt_of_pos (c / 32) m0
  have b3:=Int.emod_nonneg (c / 2560) (show m≠0 by omega)
  have b4:=Int.emod_lt_of_pos (c / 2560) m0
  have b5:=Int.emod_nonneg (c / 204800) (show m≠0 by omega)
  have b6:=Int.emod_lt_of_pos (c / 204800) m0
  refine ⟨_,rfl,_,rfl,_,rfl,(by show 3≤sizeLine; decide),fun p1 hp1=>?_⟩
  refine ⟨_,rfl,_,_,rfl,rfl,⟨by decide,by decide⟩,_,_,rfl,rfl,(by show (0:Int) < 3; decide),_,_,rfl,rfl,_,rfl,p1,_,rfl,SqL.of upd_same,fun p2 hp2=>?_⟩
  refine ⟨p2,([c / 32 % m,c / 2560 % m,c / 204800 % m]:List Int).take (1+c / 16 % 3).toNat,rfl,?_,by simp; omega,?_,fun p3 ks hp3 hks=>?_⟩
  · refine SqL.of ?_
    rw [upd_same,cut_to _ (by omega),List.map_take]
    rfl
  · intro k hk
    have:=List.mem_of_mem_take hk
    simp only [List.mem_cons,List.not_mem_nil,or_false] at this
    rcases this with rfl | rfl | rfl<;>omega
  refine ⟨p3,ks,rfl,upd_same,fun p4 zs hp4 z1 z2 z3=>?_⟩
  have ez:zs = Mi.sset (([c / 32 % m,c / 2560 % m,c / 204800 % m]:List Int).take (1+c / 16 % 3).toNat):=Mi.sorted_is z1 z2 z3 hks
  subst ez
  have s4:Same H _:=(same_new hp1 _).trans ((same_new hp2 _).trans ((same_new hp3 _).trans (same_new hp4 (.lst ((Mi.sset (([c / 32 % m,c / 2560 % m,c / 204800 % m]:List Int).take (1+c / 16 % 3).toNat)).map V.int)))))
  refine ⟨_,rfl,_,_,rfl,rfl,⟨by decide,by decide⟩,_,_,rfl,rfl,(by show (0:Int) < 9; decide),rfl,_,rfl,?_⟩
  refine ite2 (fun d=>?_) (fun d=>?_)
  · have d':c / 16 % 9 = 8:=by
      have z:=of_decide_eq_true d
      injection z
    refine ⟨_,rfl,_,rfl,_,_,rfl,fun p5 hp5=>⟨_,_,_,rfl,upd_same,⟨by omega,by omega,by omega,by omega⟩,by omega,fun p6 hp6=>?_⟩⟩
    refine ⟨_,rfl,_,_,rfl,rfl,(by show (0:Int) < 2; decide),_,rfl,_,_,rfl,rfl,⟨by decide,by decide⟩,_,rfl,_,_,rfl,rfl,r0,_,rfl,_,_,rfl,.inl ⟨SqL.of upd_same,fun p7 hp7=>⟨(by show 3≤sizeLine; decide),fun p8 hp8=>?_⟩⟩⟩
    refine q _ _ (s4.trans ((same_new hp5 _).trans ((same_new hp6 _).trans ((same_new hp7 _).trans (same_new hp8 _))))) ⟨p8,p7,rfl,upd_same,?_⟩
    rw [upd_ne (ne_of_none upd_same hp8),upd_same]
    show some (HO.tup _) = some (HO.tup _)
    congr 2
    unfold Mi.room Mi.ways
    rw [if_pos d',List.map_map]
    rfl
  · have d':¬ c / 16 % 9 = 8:=fun z=>d (by rw [decide_eq_true (show V.int (c / 16 % 9) = V.int 8 by rw [z])])
    refine ⟨_,rfl,_,_,rfl,rfl,(by show (0:Int) < 2; decide),_,rfl,_,_,rfl,rfl,⟨by decide,by decide⟩,_,rfl,_,_,rfl,rfl,r0,_,rfl,_,_,rfl,.inl ⟨SqL.of upd_same,fun p7 hp7=>⟨(by show 3≤sizeLine; decide),fun p8 hp8=>?_⟩⟩⟩
    refine q _ _ (s4.trans ((same_new hp7 _).trans (same_new hp8 _))) ⟨p8,p7,rfl,upd_same,?_⟩
    rw [upd_ne (ne_of_none upd_same hp8),upd_same]
    show some (HO.tup _) = some (HO.tup _)
    congr 2
    unfold Mi.room Mi.ways
    rw [if_neg d']
def spHall (K:PySem.W.Frag):Sp:=fun vs H Q _=>∃ (a p:Addr) (ns:List Int) (k:Nat) (u:V) (m r:Int),vs = [.ref a,.ref p,.int m,.int r]∧Scr K H a ns∧H p = some (.lst [.int (k:Int),u])∧0 < m∧m≤80∧0 < r ∧
  ∀ l H',SameX p H H'→H l = none→HallAt H' l (Mi.hall ns k m r)→H' p = some (.lst [.int ((k+1+(Mi.many ns k m).toNat:Nat):Int),u])→Q (.ref l) H'
theorem scHall:FnScope ["script","spot","most","ranks","many"] ["script","spot","most","ranks"] (defScope sHall):=⟨rfl,rfl,rfl,by decide +kernel,rfl,by decide +kernel,by decide +kernel⟩
theorem ndHall:(["k","script","spot","many","ranks"]:List Str).Nodup:=by decide +kernel
theorem ok_hall {fN fR:Addr} {dN dR:FuncData} (F:Fun K "_law_hall" "_law_hall" sHall f fd) (GN:FnOk P w K mg base CX0 2 fN dN ["script","spot"] (spNext K)) (bN:Binds K dN ["script","spot"] []) (kN:PySem.W.keepIn K (.ref fN) = true) (mN:mg "_law_next" = some (.ref fN))
    (GR:FnOk P w K mg base CX0 1 fR dR ["cell","many","ranks"] spRoom) (bR:Binds K dR ["cell","many","ranks"] []) (kR:PySem.W.keepIn K (.ref fR) = true) (mR:mg "_law_room" = some (.ref fR)) (m4:mg "range" = none) :
    FnOk P w K mg base CX0 3 f fd ["script","spot","most","ranks"] (spHall K):=by
  refine F.ok scHall (fun vs H Q E h=>?_) (fun cdv A outer s H vs Q E hr h=>?_)
  · obtain ⟨a,p,ns,k,u,m,r,rfl,_⟩:=h
    rfl
  obtain ⟨a,p,ns,k,u,m,r,rfl,hS,hp,m0,m80,r0,q⟩:=h
  have hr1:Room 1 _:=hr.mono (by decide)
  refine ⟨_,pss_cons (ps_set (i:=4) scHall.nd rfl (Or.inr rfl) (pe_op op_add pe_int (pe_op op_mod (pe_call GN hr rfl mN kN bN .nil pass0 (pa_cons (pv 0) (pa_cons (pv 1) pa_nil))) (pv 2))))
    (pss_one (ps_ret (pe_comp (N:=["k","script","spot","many","ranks"]) (capt:=[none,some 0,some 1,some 4,some 3]) rfl (pi_range1 rfl m4 (pa_cons (pv 4) pa_nil)) rfl (by repeat (first | exact .nil | refine .cons rfl ?_))
      (by repeat (first | exact .nil | refine .skip (by decide) (by decide) ?_ | refine .free ⟨_,rfl⟩ ?_))
      (.tgt (.var rfl (.inl rfl) ⟨_,rfl⟩ (.inl rfl) (.var rfl (.inl rfl) ⟨_,rfl⟩ (.inl rfl) (.var rfl (.inl rfl) ⟨_,rfl⟩ (.inl rfl) (.var rfl (.inl rfl) ⟨_,rfl⟩ (.inl rfl) .nil)))))
      (fun _ _ _ _ _=>pg_name (i:=0) ndHall rfl (Or.inl rfl)) (fun _ _ _ _ _=>pif_nil)
      (fun _ _ _ _ _=>pe_call GR hr1 rfl mR kR bR .nil pass0 (pa_cons (pe_op op_add (pe_call GN hr rfl mN kN bN .nil pass0 (pa_cons (pv 1) (pa_cons (pv 2) pa_nil))) (pe_op op_mul pe_int (pv 0))) (pa_cons (pv 3) (pa_cons (pv 4) pa_nil))))))),?_⟩
  have hm:=Mi.many_pos (ns:=ns) (k:=k) m0
  refine ⟨_,rfl,_,rfl,a,p,ns,k,u,rfl,hS,hp,_,rfl,_,_,rfl,rfl,m0,_,_,rfl,rfl,?_⟩
  have hS1:Scr K (upd H p (.lst [.int ((k+1:Nat):Int),u])) a ns:=hS.keep hp samex_upd
  refine ⟨_,rfl,Mi.many ns k m,rfl,by omega,by omega,?_⟩
  refine comp_range (fun D i ys H2=>Scr K H2 a ns∧D≠p∧H D = none∧SameX p H H2∧H2 p = some (.lst [.int ((k+1+i:Nat):Int),u])∧H2 D = some (.lst ys) ∧
    Paired (RoomAt H2) ((List.range i).map fun (j:Nat)=>Mi.room (Mi.cell ns (k+1+j)+77777*(j:Int)) (Mi.many ns k m) r) ys) ?_ ?_ ?_ ?_
  · intro D hD
    have hDp:D≠p:=by
      rintro rfl
      rw [upd_same] at hD
      cases hD
    have hD0:H D = none:=by rw [upd_ne hDp] at hD; exact hD
    exact ⟨hS1.same (same_new hD _),hDp,hD0,samex_upd.trans (same_new hD _).x,by rw [upd_ne hDp.symm,upd_same],upd_same,.nil⟩
  · rintro D i ys H2 hi ⟨_,_,_,_,_,h2,pr⟩
    refine ⟨h2,fun _=>?_⟩
    have z:=Paired.length pr
    simp only [List.length_map,List.length_range] at z
    exact small1000 (by omega)
  · rintro D i ys H2 hi ⟨hS2,hDp,hD0,sx,hp2,h2,pr⟩
    refine ⟨⟨rfl,rfl,rfl,rfl,trivial⟩,?_⟩
    refine ⟨_,rfl,_,rfl,a,p,ns,k+1+i,u,rfl,hS2,hp2,_,rfl,_,_,rfl,rfl,.inl ⟨by decide,by decide⟩,_,_,rfl,rfl,_,rfl,_,rfl,_,_,_,rfl,(show 0 < Mi.many ns k m by omega),(show Mi.many ns k m≤80 by omega),r0,fun v H' sm ra=>?_⟩
    have hD3:H' D = some (.lst ys):=sm _ _ (by rw [upd_ne hDp]; exact h2)
    have tup2:∀ b xs,H2 b = some (.tup xs)→H' b = some (.tup xs):=fun b xs e=>sm _ _ (by rw [upd_ne (ne_of e hp2 (by intro z; cases z))]; exact e)
    have tup3:∀ b xs,H' b = some (.tup xs)→(upd H' D (.lst (ys++[v]))) b = some (.tup xs):=fun b xs e=>by rw [upd_ne (ne_of e hD3 (by intro z; cases z))]; exact e
    have hp3:H' p = some (.lst [.int ((k+1+i+1:Nat):Int),u]):=sm _ _ upd_same
    refine ⟨hD3,((hS2.keep hp2 samex_upd).same sm).keep hD3 samex_upd,hDp,hD0,fun b o e hb=>?_,by rw [upd_ne hDp.symm,hp3]; rfl,upd_same,?_⟩
    · rw [upd_ne (ne_of_none e hD0)]
      exact sm _ _ (by rw [upd_ne hb]; exact sx b o e hb)
    · rw [List.range_succ,List.map_append]
      refine Paired.snoc (rooms_tups (rooms_tups pr tup2) tup3) ?_
      have e0:(0:Int)+(i:Int) = (i:Int):=by omega
      rw [e0] at ra
      exact ra.tups tup3
  · rintro D ys H2 ⟨_,hDp,hD0,sx,hp2,h2,pr⟩
    exact q D H2 sx hD0 ⟨ys,h2,pr⟩ hp2
end
end Law

namespace Law
open PySem L2
abbrev sPulled:Stmt:=top 1
def fo (q:List Int) (st:Int→Nat) (r:Int):V:=if r∈q then .int (st r:Int) else .non
section
seal PA PE PS PSs PT PI PG PGs PIf
variable {P:Program} {w:World} {K:PySem.W.Frag} {mg:Str→Option Value} {base:Heap} {f g:Addr} {fd gd:FuncData}
def spPulled (K:PySem.W.Frag):Sp:=fun vs H Q _=>∃ (l gl:Addr) (hs:List Mi.Room) (G:List Int) (h:Int),vs = [.ref l,.int h,.ref gl]∧HallAt H l hs∧SqL K H gl (G.map V.int)∧Rms hs (rngI hs.length)∧G.length≤100∧(∀ x∈G,x∈rngI hs.length) ∧
  ∀ d q st H',Same H H'→H d = none→H' d = some (.lst ((rngI hs.length).map (fo q st)))→Bf.Drawn (wIn hs (rngI hs.length)) (ownB hs h) (rngI hs.length) G q st→Q (.ref d) H'
theorem scPulled:FnScope ["hall","hand","goal","rooms","steps"] ["hall","hand","goal"] (defScope sPulled):=⟨rfl,rfl,rfl,by decide +kernel,rfl,by decide +kernel,by decide +kernel⟩
theorem ndRoomS:(["room","steps"]:List Str).Nodup:=by decide +kernel
theorem ok_pulled {fD:Addr} {dD:FuncData} (F:Fun K "pulled" "pulled" sPulled f fd) (GD:FnOk P w K mg base CX0 2 fD dD ["hall","rooms","hand","goal"] (spDrawn K)) (bD:Binds K dD ["hall","rooms","hand","goal"] []) (kD:PySem.W.keepIn K (.ref fD) = true) (mD:mg "drawn" = some (.ref fD))
    (ml:mg "len" = none) (mli:mg "list" = none) (mr:mg "range" = none):FnOk P w K mg base CX0 3 f fd ["hall","hand","goal"] (spPulled K):=by
  refine F.ok scPulled (fun vs H Q E h=>?_) (fun cdv A outer s H vs Q E hr h=>?_)
  · obtain ⟨l,gl,hs,G,h,rfl,_⟩:=h
    rfl
  obtain ⟨l,gl,hs,G,h,rfl,hA,hG,rms,gln,gR,qq⟩:=h
  have hu:=hu_of hr
  refine ⟨_,pss_cons (ps_set (i:=3) scPulled.nd rfl (Or.inl rfl) (pe_callTy (call_listR rfl) rfl mli PyProof.Rows.boot_list (pa_cons (pe_callTy call_range1 rfl mr PyProof.Rows.boot_range (pa_cons (pe_callB call_len_seq rfl ml PySem.boot_len (pa_cons (pv 0) pa_nil)) pa_nil)) pa_nil)))
    (pss_cons (ps_set (i:=4) scPulled.nd rfl (Or.inr rfl) (pe_call GD hr rfl mD kD bD .nil pass0 (pa_cons (pv 0) (pa_cons (pv 3) (pa_cons (pv 1) (pa_cons (pv 2) pa_nil))))))
    (pss_one (ps_ret (pe_comp (N:=["room","steps"]) (capt:=[none,some 4]) rfl (pi_list (pv 3)) rfl (by repeat (first | exact .nil | refine .cons rfl ?_))
        (by repeat (first | exact .nil | refine .skip (by decide) (by decide) ?_ | refine .free ⟨_,rfl⟩ ?_)) (.tgt (.var rfl (.inl rfl) ⟨_,rfl⟩ (.inl rfl) .nil))
        (fun _ _ _ _ _=>pg_name (i:=0) ndRoomS rfl (Or.inl rfl)) (fun _ _ _ _ _=>pif_nil)
        (fun _ _ _ _ _=>pe_dget1 hu (pv 1) (pv 0) ⟨rfl,rfl,rfl,rfl⟩))))),?_⟩
  obtain ⟨vs,el,pr⟩:=id hA
  have lv:hs.length = vs.length:=Paired.length pr
  have lh:=rms.hl
  refine ⟨_,rfl,l,vs,rfl,.inl (SqL.of el),?_⟩
  rw [← lv]
  refine ⟨_,rfl,fun p5 hp5=>⟨_,_,_,rfl,upd_same,⟨by omega,by omega,by omega,by omega⟩,by omega,fun rl hrl=>?_⟩⟩
  have er:((List.range (((hs.length:Nat):Int) - 0).toNat).map fun (i:Nat)=>V.int (0+(i:Int))) = (rngI hs.length).map V.int:=by
    rw [rngI,List.map_map,show (((hs.length:Nat):Int) - 0).toNat = hs.length by omega]
    exact List.map_congr_left fun i _=>by simp
  rw [er]
  have s2:=(same_new hp5 (.rng 0 ((hs.length:Nat):Int))).trans (same_new hrl (.lst ((rngI hs.length).map V.int)))
  have erl:(upd (upd H p5 (.rng 0 ((hs.length:Nat):Int))) rl (.lst ((rngI hs.length).map V.int))) rl = some (.lst ((rngI hs.length).map V.int)):=upd_same
  generalize upd (upd H p5 (.rng 0 ((hs.length:Nat):Int))) rl (.lst ((rngI hs.length).map V.int)) = H2 at s2 erl
  refine ⟨_,rfl,_,rfl,_,rfl,_,rfl,l,rl,gl,hs,rngI hs.length,G,h,rfl,hA.same s2,SqL.of erl,s2.seq hG,rms,gln,gR,fun d q st H3 s3 hd ⟨o,hst⟩ hdr=>?_⟩
  refine ⟨_,rfl,rl,rfl,⟨_,SqL.of (s3 _ _ erl)⟩,?_⟩
  refine comp_list (K:=K) (a:=rl) (xs:=(rngI hs.length).map V.int) (fun D i ys H4=>Same H3 H4∧H3 D = none∧H4 D = some (.lst ys)∧ys = ((rngI hs.length).take i).map (fo q st)) ?_ ?_ ?_ ?_
  · exact fun D hD=>⟨same_new hD _,hD,upd_same,rfl⟩
  · rintro D i ys H4 hi ⟨sm,hD,h4,ey⟩
    refine ⟨SqL.of (sm _ _ (s3 _ _ erl)),h4,fun _=>small1000 ?_⟩
    rw [ey,List.length_map,List.length_take,rngI_len]
    omega
  · rintro D i x ys H4 hx ⟨sm,hD,h4,ey⟩
    rw [List.getElem?_map] at hx
    obtain ⟨r,hr',exr⟩:=Option.map_eq_some_iff.mp hx
    subst exr
    obtain ⟨hi,er⟩:=List.getElem?_eq_some_iff.mp hr'
    refine ⟨⟨rfl,trivial⟩,_,rfl,d,rfl,.inl ⟨_,.inr ⟨o,sm _ _ hst⟩⟩,_,rfl,_,.inl ⟨_,.inl r,.inr ⟨o,sm _ _ hst⟩,rfl,rfl⟩,h4,fun b u e=>?_,hD,upd_same,?_⟩
    · rw [upd_ne (ne_of_none e hD)]
      exact sm _ _ e
    · rw [ey,List.take_succ_eq_append_getElem hi,er,List.map_append]
      congr 1
      rw [val_dI,List.map_cons,List.map_nil,fo]
      split<;>rfl
  · rintro D ys H4 ⟨sm,hD,h4,ey⟩
    rw [List.length_map,List.take_length] at ey
    subst ey
    exact qq D q st H4 (s2.trans (s3.trans sm)) (s2.free (s3.free hD)) h4 hdr
end
end Law

namespace L2
open PySem PySem.Spec PyProof.Rows
namespace Tx
abbrev L (x:Str):List Nat:=x.cps.toList
theorem ext {a b:Str} (h:L a = L b):a = b:=Str.ext' (Array.toList_inj.mp h)
theorem L_append (a b:Str):L (a++b) = L a++L b:=by simp [L,Str.cps_append]
theorem L_len (a:Str):a.length = (L a).length:=by simp [L,Str.length]
theorem L1 (c:Nat):L ⟨#[c]⟩ = [c]:=rfl
theorem LE:L Str.empty = []:=rfl
theorem L_join (c:Nat):∀ (r:List Str) (a:Str),L (Str.join ⟨#[c]⟩ (a::r)) = L a++r.flatMap fun b=>c::L b
  | [],a=>by
    show L a = _
    simp
  | b::r,a=>by
    rw [L,cps_join_cons c a (b::r) (by simp)]
    show L a++c::L (Str.join ⟨#[c]⟩ (b::r)) = _
    rw [L_join c r b]
    simp
theorem L_join0:∀ (l:List Str),L (Str.join ⟨#[]⟩ l) = l.flatMap L
  | []=>rfl
  | [a]=>by
    show L a = _
    simp
  | a::b::r=>by
    show L (a++⟨#[]⟩++Str.join ⟨#[]⟩ (b::r)) = _
    rw [L_append,L_append,L_join0 (b::r)]
    simp
def row (r:Mi.Room):Str:=Str.join ⟨#[32]⟩ (txtI r.1::(txtI r.2.1++⟨#[58]⟩)::r.2.2.map txtI)
def text (hs:List Mi.Room):Str:=Str.join ⟨#[10]⟩ (hs.map row)
theorem L_row (r:Mi.Room):L (row r) = L (txtI r.1)++32::(L (txtI r.2.1)++58::r.2.2.flatMap fun w=>32::L (txtI w)):=by
  rw [row,L_join,List.flatMap_cons,L_append]
  simp [List.flatMap_map,L1]
def Sm (r:Mi.Room):Prop:=(0≤r.1∧r.1 < 2)∧(0≤r.2.1∧r.2.1 < 8)∧r.2.2.length≤80∧∀ w∈r.2.2,0≤w∧w < 100
theorem len_txt {n:Int} (h0:0≤n) (h1:n < 100):(txtI n).length≤10:=PySem.W.KT.len_num h0 (by omega)
theorem log_txt {n:Int} (h0:0≤n) (h1:n < 100):n.natAbs.log2 < 1920:=by
  by_cases z:n.natAbs = 0
  · rw [z]; decide
  · exact (Nat.log2_lt z).mpr (Nat.lt_trans (show n.natAbs < 2 ^ 7 by omega) (Nat.pow_lt_pow_right (by decide) (by decide)))
theorem len_tail:∀ (ws:List Int),(∀ w∈ws,0≤w∧w < 100)→(ws.flatMap fun w=>32::L (txtI w)).length≤11*ws.length
  | [],_=>by simp
  | w::ws,h=>by
    obtain ⟨a,b⟩:=h w (by simp)
    have h1:=len_txt a b
    rw [L_len] at h1
    have h2:=len_tail ws fun x hx=>h x (List.mem_cons.mpr (.inr hx))
    rw [List.flatMap_cons,List.length_append,List.length_cons,List.length_cons]
    omega
theorem len_row {r:Mi.Room} (h:Sm r):(row r).length≤902:=by
  obtain ⟨⟨a1,a2⟩,⟨b1,b2⟩,c,d⟩:=h
  have h1:=len_txt a1 (by omega)
  have h2:=len_txt b1 (by omega)
  have h3:=len_tail r.2.2 d
  rw [L_len] at h1 h2
  rw [L_len,L_row]
  simp only [List.length_append,List.length_cons]
  omega
theorem row_join (r:Mi.Room):Str.empty++txtI r.1++⟨#[32]⟩++txtI r.2.1++⟨#[58]⟩++Str.join ⟨#[]⟩ (r.2.2.map fun w=>Str.empty++⟨#[32]⟩++txtI w) = row r:=by
  apply ext
  rw [L_append,L_join0,L_row]
  simp only [L_append,L1,LE]
  simp [List.flatMap_map,L_append,L1,LE]
theorem joinOk_of {c:List Nat} {ts:List Str} {B:Nat} (hc:c.length≤1) (hB:∀ y∈ts,y.length≤B) (hn:ts.length≤100) (hb:B≤1000):JoinOk ⟨c.toArray⟩ ts = true:=by
  unfold JoinOk
  rw [StrLaws.joinFits hB]
  · rfl
  · have h1:=Nat.mul_le_mul hn hb
    have h2:=Nat.mul_le_mul hn hc
    have h3:(⟨c.toArray⟩:Str).length = c.length:=by simp [Str.length]
    rw [h3]
    omega
end Tx
end L2

namespace L2
open PySem
def ofE (e:DictEntry):Str×Tok×Int×Tok:=match e.key,e.val with
  | .str x t,.int i u=>(x,t,i,u)
  | _,_=>(Str.empty,0,0,0)
def toE (w:World) (q:Str×Tok×Int×Tok):DictEntry:=⟨PyData.keyHash w.params q.1,.str q.1 q.2.1,.int q.2.2.1 q.2.2.2⟩
def kvE (q:Str×Tok×Int×Tok):Key×V:=(.inr q.1,.int q.2.2.1)
def vE (q:Str×Tok×Int×Tok):Key×Value:=(.inr q.1,.int q.2.2.1 q.2.2.2)
theorem pairs_E {P:Program} {w:World}:∀ l:List (Str×Tok×Int×Tok),PySem.Pairs (mixKind P w) (l.map (toE w)) (l.map vE)
  | []=>.nil
  | q::l=>.cons (mixKind_str P w q.1 q.2.1) rfl (pairs_E l)
theorem kv_E:∀ l:List (Str×Tok×Int×Tok),KV (l.map kvE) (l.map vE)
  | []=>.nil
  | q::l=>.cons ⟨rfl,_,rfl⟩ (kv_E l)
theorem kd_mk {P:Program} {w:World} {K:PySem.W.Frag} {a:Addr} {kvs:List (Key×V)} {o:Obj} {es:Array DictEntry} {ep:Nat} (lk:K.lookup a = some o) (ho:o = { cls:=.type "dict",data:=.dict es ep })
    (he:es.toList = (es.toList.map ofE).map (toE w)) (hk:(es.toList.map ofE).map kvE = kvs) (h0:(a == sysModules) = false) (nd:(kvs.map (·.1)).Nodup):KDw P w K a kvs:=by
  subst ho hk
  generalize es.toList.map ofE = l at he nd
  refine ⟨h0,_,es,ep,l.map vE,lk,⟨rfl,rfl,rfl⟩,rfl,fun e hm=>?_,?_,?_,kv_E l⟩
  · have hm':e∈es.toList:=by simpa using hm
    rw [he] at hm'
    obtain ⟨q,_,rfl⟩:=List.mem_map.mp hm'
    exact ⟨.inr q.1,mixKind_str P w q.1 q.2.1,rfl⟩
  · rw [he]
    exact pairs_E l
  · have e:(l.map vE).map (·.1) = (l.map kvE).map (·.1):=by
      rw [List.map_map,List.map_map]
      rfl
    rw [e]
    exact nd
end L2

namespace Law
open PySem L2
abbrev sIsRoom:Stmt:=top 23
abbrev sLooked:Stmt:=top 24
abbrev sLookAt:Stmt:=top 25
abbrev sShown:Stmt:=top 26
abbrev sRead:Stmt:=top 27
abbrev sIsRow:Stmt:=top 28
abbrev sIsWay:Stmt:=top 29

section
seal PA PE PS PSs PT PI PG PGs PIf
variable {P:Program} {w:World} {K:PySem.W.Frag} {mg:Str→Option Value} {base:Heap} {f g:Addr} {fd gd:FuncData}
def spIsRoom (K:PySem.W.Frag):Sp:=fun vs H Q _=>∃ (l:Addr) (xs:List V) (x:Int),vs = [.ref l,.int x]∧SqL K H l xs∧Q (.bl (decide (0≤x∧x < (xs.length:Int)))) H
theorem scIsRoom:FnScope ["hall","number"] ["hall","number"] (defScope sIsRoom):=⟨rfl,rfl,rfl,by decide +kernel,rfl,by decide +kernel,by decide +kernel⟩
theorem ok_isroom (F:Fun K "is_room" "is_room" sIsRoom f fd) (ml:mg "len" = none):FnOk P w K mg base CX0 1 f fd ["hall","number"] (spIsRoom K):=by
  refine F.ok scIsRoom (fun vs H Q E h=>?_) (fun cdv A outer s H vs Q E hr h=>?_)
  · obtain ⟨l,xs,x,rfl,_⟩:=h
    rfl
  obtain ⟨l,xs,x,rfl,hl,q⟩:=h
  refine ⟨_,pss_one (ps_ret (pe_and (pe_cmpR op_ge (pv 1) pe_int (nomark _)) (pe_one (pe_cmpR op_lt (pv 1) (pe_callB call_len_seq rfl ml PySem.boot_len (pa_cons (pv 0) pa_nil)) (nomark _))))),?_⟩
  refine ⟨_,rfl,_,_,rfl,rfl,_,rfl,?_⟩
  refine ite2 (fun c=>?_) (fun c=>?_)
  · have c':0≤x:=of_decide_eq_true c
    refine ⟨_,rfl,_,rfl,l,xs,rfl,.inl hl,_,_,rfl,rfl,?_⟩
    rw [decide_eq_decide.mpr (show (0≤x∧x < (xs.length:Int))↔x < (xs.length:Int) by omega)] at q
    exact q
  · have c':¬ 0≤x:=of_decide_eq_false (Bool.eq_false_iff.mpr c)
    rw [decide_eq_false (show ¬ (0≤x∧x < (xs.length:Int)) by omega)] at q
    exact q
def spLookAt (K:PySem.W.Frag):Sp:=fun vs H Q _=>∃ (l q:Addr) (xs:List V) (rm:Nat) (ws:List Int),vs = [.ref l,.int (rm:Int),.ref q]∧SqL K H l xs∧SqT K H q (ws.map V.int)∧Mi.wf xs.length (-1) ws = -1∧Q .non H
theorem scLookAt:FnScope ["hall","room","ways","ahead","way"] ["hall","room","ways"] (defScope sLookAt):=⟨rfl,rfl,rfl,by decide +kernel,rfl,by decide +kernel,by decide +kernel⟩
theorem ok_lookat {fI:Addr} {dI:FuncData} (F:Fun K "look_at_ways" "look_at_ways" sLookAt f fd) (GI:FnOk P w K mg base CX0 1 fI dI ["hall","number"] (spIsRoom K)) (bI:Binds K dI ["hall","number"] []) (kI:PySem.W.keepIn K (.ref fI) = true) (mI:mg "is_room" = some (.ref fI)) :
    FnOk P w K mg base CX0 2 f fd ["hall","room","ways"] (spLookAt K):=by
  refine F.ok scLookAt (fun vs H Q E h=>?_) (fun cdv A outer s H vs Q E hr h=>?_)
  · obtain ⟨l,q,xs,rm,ws,rfl,_⟩:=h
    rfl
  obtain ⟨l,q,xs,rm,ws,rfl,hl,hq,h0,q1⟩:=h
  refine ⟨_,pss_cons (ps_set (i:=3) scLookAt.nd rfl (Or.inl rfl) (pe_un un_neg pe_int))
    (pss_one (ps_for PassesOwn.never rfl (pi_tup (pv 2)) (pg_name (i:=4) scLookAt.nd rfl (Or.inl rfl))
      (pss_cons (ps_if (pt_not (pt_val (pe_call GI hr rfl mI kI bI .nil pass0 (pa_cons (pv 0) (pa_cons (pv 4) pa_nil)))))
          (pss_one ps_dead) pss_nil)
      (pss_cons (ps_if (pt_cmpR op_le (pv 4) (pv 3) (nomark _))
          (pss_one ps_dead) pss_nil)
      (pss_one (ps_set (i:=3) scLookAt.nd rfl (Or.inl rfl) (pv 4))))))),?_⟩
  refine ⟨_,rfl,_,rfl,q,rfl,⟨_,hq⟩,?_⟩
  refine for_tup (K:=K) (a:=q) (xs:=ws.map V.int) (fun i σ H2=>H2 = H∧∃ (last:Int) (v:Option V),σ = [some (.ref l),some (.int (rm:Int)),some (.ref q),some (.int last),v]∧Mi.wf xs.length (-1) ws = Mi.wf xs.length last (ws.drop i))
    ⟨rfl,-1,none,rfl,rfl⟩ (fun i σ H2 _ ⟨e,_⟩=>by rw [e]; exact hq) ?_ ?_
  · rintro i x σ H2 hx ⟨rfl,last,v,rfl,hw⟩
    rw [List.getElem?_map] at hx
    obtain ⟨z,ez,exz⟩:=Option.map_eq_some_iff.mp hx
    subst exz
    have hd:ws.drop i = z::ws.drop (i+1):=by
      obtain ⟨hi,e⟩:=List.getElem?_eq_some_iff.mp ez
      rw [List.drop_eq_getElem_cons hi,e]
    rw [hd,h0,Mi.wf] at hw
    refine ⟨_,rfl,_,rfl,l,xs,z,rfl,hl,_,rfl,?_⟩
    by_cases c:0≤z∧z < (xs.length:Int)
    · rw [decide_eq_true c]
      refine iteF ?_
      rw [if_neg (by omega)] at hw
      refine ⟨_,rfl,_,rfl,_,_,rfl,rfl,_,rfl,ite2 (fun c2=>?_) (fun c2=>?_)⟩
      · have c2':z≤last:=of_decide_eq_true c2
        rw [if_pos c2'] at hw
        exact absurd hw (by decide)
      · have c2':¬ z≤last:=of_decide_eq_false (Bool.eq_false_iff.mpr c2)
        rw [if_neg c2'] at hw
        exact ⟨_,rfl,rfl,z,some (.int z),rfl,h0.trans hw⟩
    · rw [if_pos (by omega)] at hw
      exact absurd hw (by decide)
  · rintro σ H2 ⟨rfl,last,v,rfl,hw⟩
    exact q1
def spLooked:Sp:=fun vs H Q _=>∃ (l:Addr) (hs:List Mi.Room),vs = [.ref l]∧HallAt H l hs∧Mi.fault hs.length hs = -1∧∀ H',Same H H'→Q (.int (hs.length:Int)) H'
theorem scLooked:FnScope ["hall","room","hand","rank","ways"] ["hall"] (defScope sLooked):=⟨rfl,rfl,rfl,by decide +kernel,rfl,by decide +kernel,by decide +kernel⟩
theorem ok_looked {fL:Addr} {dL:FuncData} (F:Fun K "looked" "looked" sLooked f fd) (GL:FnOk P w K mg base CX0 2 fL dL ["hall","room","ways"] (spLookAt K)) (bL:Binds K dL ["hall","room","ways"] []) (kL:PySem.W.keepIn K (.ref fL) = true) (mL:mg "look_at_ways" = some (.ref fL))
    (ml:mg "len" = none) (me:mg "enumerate" = none):FnOk P w K mg base CX0 3 f fd ["hall"] spLooked:=by
  refine F.ok scLooked (fun vs H Q E h=>?_) (fun cdv A outer s H vs Q E hr h=>?_)
  · obtain ⟨l,hs,rfl,_⟩:=h
    rfl
  obtain ⟨l,hs,rfl,hA,h0,q⟩:=h
  refine ⟨_,pss_cons (ps_for PassesOwn.never rfl (pi_enum rfl me (pa_cons (pv 0) pa_nil))
      (pg_tup rfl (pgs_cons (pg_name (i:=1) scLooked.nd rfl (Or.inl rfl)) (pgs_cons (pg_tup rfl (pgs_cons (pg_name (i:=2) scLooked.nd rfl (Or.inl rfl)) (pgs_cons (pg_name (i:=3) scLooked.nd rfl (Or.inl rfl)) (pgs_cons (pg_name (i:=4) scLooked.nd rfl (Or.inl rfl)) pgs_nil)))) pgs_nil)))
      (pss_cons (ps_if (pt_cmpR op_eq (pe_callB call_len_seq rfl ml PySem.boot_len (pa_cons (pv 4) pa_nil)) pe_int (nomark _))
          (pss_one ps_dead) pss_nil)
      (pss_one (ps_expr (pe_call GL hr rfl mL kL bL .nil pass0 (pa_cons (pv 0) (pa_cons (pv 1) (pa_cons (pv 4) pa_nil))))))))
    (pss_one (ps_ret (pe_callB call_len_seq rfl ml PySem.boot_len (pa_cons (pv 0) pa_nil)))),?_⟩
  obtain ⟨vs,el,pr⟩:=id hA
  have lv:hs.length = vs.length:=Paired.length pr
  refine ⟨_,rfl,l,rfl,⟨vs,SqL.of el⟩,?_⟩
  refine for_enum (K:=K) (a:=l) (xs:=vs) (fun i σ H2=>Same H H2∧(∃ a b d e,σ = [some (.ref l),a,b,d,e])∧Mi.fault hs.length hs = Mi.fault hs.length (hs.drop i)) ⟨Same.refl H,⟨_,_,_,_,rfl⟩,rfl⟩ (fun i σ H2 _ ⟨sm,_⟩=>sm.seq (SqL.of el)) ?_ ?_
  · rintro i x σ H2 p hx ⟨sm,⟨a,b,d,e,rfl⟩,hf⟩ hp
    obtain ⟨r,hr',pa,qa,rfl,h1,h2⟩:=pair_back pr hx
    rw [h0,drop_at hr',Mi.fault] at hf
    have sm3:Same H (upd H2 p (.tup [.int (i:Int),.ref pa])):=sm.trans (same_new hp _)
    have h13:=sm3 _ _ h1
    have h23:=sm3 _ _ h2
    refine ⟨p,_,rfl,SqT.of upd_same,rfl,_,_,rfl,_,_,rfl,pa,_,rfl,SqT.of h13,rfl,_,_,rfl,_,_,rfl,_,_,rfl,rfl,rfl,?_⟩
    refine ⟨_,rfl,qa,_,rfl,.inr (SqT.of h23),rfl,_,rfl,ifeq2 (fun z=>?_) (fun z=>?_)⟩
    · have e0:r.2.2 = []:=by
        rw [List.length_map] at z
        exact List.eq_nil_of_length_eq_zero (by omega)
      rw [if_pos e0] at hf
      exact absurd hf (by decide)
    · have e0:¬ r.2.2 = []:=fun e=>z (by rw [e]; rfl)
      rw [if_neg e0] at hf
      by_cases hw:Mi.wf hs.length (-1) r.2.2 = -1
      · rw [if_pos hw] at hf
        rw [lv] at hw
        exact ⟨_,rfl,_,rfl,_,rfl,l,qa,vs,i,r.2.2,rfl,sm3.seq (SqL.of el),SqT.of h23,hw,sm3,⟨_,_,_,_,rfl⟩,h0.trans hf⟩
      · rw [if_neg hw] at hf
        exact absurd hf.symm hw
  · rintro σ H2 ⟨sm,⟨a,b,d,e,rfl⟩,hf⟩
    refine ⟨_,rfl,l,vs,rfl,.inl (sm.seq (SqL.of el)),?_⟩
    rw [← lv]
    exact q _ sm
end
end Law

namespace Law
open PySem L2
section
seal PA PE PS PSs PT PI PG PGs PIf
variable {P:Program} {w:World} {K:PySem.W.Frag} {mg:Str→Option Value} {base:Heap} {f g:Addr} {fd gd:FuncData}
def spShown:Sp:=fun vs H Q _=>∃ (l:Addr) (hs:List Mi.Room),vs = [.ref l]∧HallAt H l hs∧hs.length≤80∧(∀ r∈hs,Tx.Sm r)∧∀ H',Same H H'→Q (.str (Tx.text hs)) H'
theorem scShown:FnScope ["hall","rows","hand","rank","ways"] ["hall"] (defScope sShown):=⟨rfl,rfl,rfl,by decide +kernel,rfl,by decide +kernel,by decide +kernel⟩
theorem ndShown:(["way"]:List Str).Nodup:=by decide +kernel
theorem ok_shown (F:Fun K "shown" "shown" sShown f fd):FnOk P w K mg base CX0 1 f fd ["hall"] spShown:=by
  refine F.ok scShown (fun vs H Q E h=>?_) (fun cdv A outer s H vs Q E hr h=>?_)
  · obtain ⟨l,hs,rfl,_⟩:=h
    rfl
  obtain ⟨l,hs,rfl,hA,hn,hsm,q⟩:=h
  refine ⟨_,pss_cons (ps_set (i:=1) scShown.nd rfl (Or.inl rfl) (pe_lst pa_nil))
    (pss_cons (ps_for PassesOwn.never rfl (pi_list (pv 0)) (pg_tup rfl (pgs_cons (pg_name (i:=2) scShown.nd rfl (Or.inl rfl)) (pgs_cons (pg_name (i:=3) scShown.nd rfl (Or.inl rfl)) (pgs_cons (pg_name (i:=4) scShown.nd rfl (Or.inl rfl)) pgs_nil))))
      (pss_one (ps_expr (pe_bm PySem.F.plainAttrs_list PySem.F.slot_list_append PySem.F.type_list_append mt_append (pv 1)
        (pa_cons (pe_op op_add_str (pe_fstr (pfs_cons (pf_int (pv 2)) (pfs_cons pf_str (pfs_cons (pf_int (pv 3)) (pfs_cons pf_str pfs_nil)))))
          (pe_bm PySem.F.plainAttrs_str PySem.F.slot_str_join PySem.F.type_str_join mt_join pe_str (pa_cons (pe_comp (N:=["way"]) (capt:=[none]) rfl (pi_tup (pv 4)) rfl (by repeat (first | exact .nil | refine .cons rfl ?_))
            (by repeat (first | exact .nil | refine .skip (by decide) (by decide) ?_ | refine .free ⟨_,rfl⟩ ?_)) (.tgt .nil)
            (fun _ _ _ _ _=>pg_name (i:=0) ndShown rfl (Or.inl rfl)) (fun _ _ _ _ _=>pif_nil)
            (fun _ _ _ _ _=>pe_fstr (pfs_cons pf_str (pfs_cons (pf_int (pv 0)) pfs_nil)))) pa_nil))) pa_nil)))))
    (pss_one (ps_ret (pe_bm PySem.F.plainAttrs_str PySem.F.slot_str_join PySem.F.type_str_join mt_join pe_str (pa_cons (pv 1) pa_nil))))),?_⟩
  obtain ⟨vs,el,pr⟩:=id hA
  have lv:hs.length = vs.length:=Paired.length pr
  refine ⟨(by show 0≤sizeLine; decide),fun p hp=>?_⟩
  have hlp:l≠p:=ne_of_none el hp
  refine ⟨_,rfl,l,rfl,⟨vs,SqL.of (same_new hp _ _ _ el)⟩,?_⟩
  refine for_list (K:=K) (a:=l) (xs:=vs) (fun i σ H2=>Same H H2∧(∃ a b c,σ = [some (.ref l),some (.ref p),a,b,c])∧H2 p = some (.lst (((hs.take i).map Tx.row).map V.str))) ⟨same_new hp _,⟨_,_,_,rfl⟩,upd_same⟩ (fun i σ H2 _ ⟨sm,_⟩=>SqL.of (sm _ _ el)) ?_ ?_
  · rintro i x σ H2 hx ⟨sm,⟨a,b,c,rfl⟩,h2⟩
    obtain ⟨r,hr',pa,qa,rfl,h1,hq1⟩:=pair_back pr hx
    have hi:=(List.getElem?_eq_some_iff.mp hr').1
    have rm:Tx.Sm r:=hsm r (List.mem_of_getElem? hr')
    obtain ⟨⟨a1,a2⟩,⟨b1,b2⟩,c1,d1⟩:=id rm
    have t1:=Tx.len_txt a1 (by omega)
    have t2:=Tx.len_txt b1 (by omega)
    have sz:(100000:Nat)≤sizeLine:=by decide
    have el0:Str.empty.length = 0:=rfl
    have k1:(Str.empty++txtI r.1).length≤20:=by rw [Str.length_append]; omega
    have k2:(Str.empty++txtI r.1++Str.ofString " ").length≤30:=by rw [Str.length_append,show (Str.ofString " ").length = 1 by decide +kernel]; omega
    have k3:(Str.empty++txtI r.1++Str.ofString " "++txtI r.2.1).length≤40:=by rw [Str.length_append]; omega
    have k4:(Str.empty++txtI r.1++Str.ofString " "++txtI r.2.1++Str.ofString ":").length≤50:=by rw [Str.length_append,show (Str.ofString ":").length = 1 by decide +kernel]; omega
    refine ⟨pa,_,rfl,SqT.of (sm _ _ h1),rfl,_,_,rfl,_,_,rfl,_,_,rfl,rfl,?_⟩
    refine ⟨_,rfl,.inl ⟨rfl,_,SqL.of h2⟩,?_⟩
    refine ⟨_,rfl,r.1,rfl,Tx.log_txt a1 (by omega),by omega,by omega,_,rfl,r.2.1,rfl,Tx.log_txt b1 (by omega),by omega,by omega,by omega,?_⟩
    refine ⟨rfl,_,rfl,qa,rfl,⟨_,SqT.of (sm _ _ hq1)⟩,?_⟩
    refine comp_tup (K:=K) (a:=qa) (xs:=r.2.2.map V.int) (fun D i ys H3=>Same H2 H3∧H2 D = none∧H3 D = some (.lst ys)∧ys = (((r.2.2.take i).map fun w=>Str.empty++Str.ofString " "++txtI w).map V.str)) ?_ ?_ ?_ ?_
    · exact fun D hD=>⟨same_new hD _,hD,upd_same,rfl⟩
    · rintro D i ys H3 hi3 ⟨sm3,hD,h3,ey⟩
      refine ⟨SqT.of (sm3 _ _ (sm _ _ hq1)),h3,fun _=>?_⟩
      rw [ey]
      refine small1000 ?_
      rw [List.length_map,List.length_map,List.length_take]
      omega
    · rintro D i x ys H3 hx3 ⟨sm3,hD,h3,ey⟩
      rw [List.getElem?_map] at hx3
      obtain ⟨z,ez,exz⟩:=Option.map_eq_some_iff.mp hx3
      subst exz
      obtain ⟨w1,w2⟩:=d1 z (List.mem_of_getElem? ez)
      have t3:=Tx.len_txt w1 w2
      have k5:(Str.empty++Str.ofString " ").length≤10:=by decide +kernel
      have k6:(Str.empty++Str.ofString " "++txtI z).length≤30:=by rw [Str.length_append]; omega
      refine ⟨trivial,by omega,_,rfl,z,rfl,Tx.log_txt w1 w2,by omega,by omega,h3,fun b o e=>?_,hD,upd_same,?_⟩
      · rw [upd_ne (ne_of_none e hD)]
        exact sm3 b o e
      · have hz:=(List.getElem?_eq_some_iff.mp ez).1
        rw [ey,List.take_succ_eq_append_getElem hz,(List.getElem?_eq_some_iff.mp ez).2]
        simp
    · rintro D ys H3 ⟨sm3,hD,h3,ey⟩
      rw [List.length_map,List.take_length] at ey
      have hj:JoinOk (Str.ofString "") (r.2.2.map fun w=>Str.empty++Str.ofString " "++txtI w) = true:=by
        refine Tx.joinOk_of (c:=[]) (B:=30) (by decide) (fun y hy=>?_) (by rw [List.length_map]; omega) (by decide)
        obtain ⟨z,hz,rfl⟩:=List.mem_map.mp hy
        obtain ⟨w1,w2⟩:=d1 z hz
        have t3:=Tx.len_txt w1 w2
        have k5:(Str.empty++Str.ofString " ").length≤10:=by decide +kernel
        rw [Str.length_append]
        omega
      refine ⟨Str.ofString "",D,_,rfl,rfl,SqL.of (by rw [h3,ey]),hj,?_⟩
      have er:Str.empty++txtI r.1++Str.ofString " "++txtI r.2.1++Str.ofString ":"++Str.join (Str.ofString "") (r.2.2.map fun w=>Str.empty++Str.ofString " "++txtI w) = Tx.row r:=Tx.row_join r
      have lr:=Tx.len_row rm
      refine ⟨_,_,rfl,rfl,?_,?_⟩
      · rw [← Str.length_append]
        have e:=congrArg Str.length er
        exact Nat.le_trans (Nat.le_of_eq e) (by omega)
      refine ⟨p,_,_,rfl,rfl,sm3 _ _ h2,?_,?_⟩
      · rw [List.length_map,List.length_map,List.length_take]
        exact small1000 (by omega)
      refine ⟨fun b o e=>?_,⟨_,_,_,rfl⟩,?_⟩
      · rw [upd_ne (ne_of_none e hp)]
        exact sm3 _ _ (sm _ _ e)
      · rw [upd_same,List.take_succ_eq_append_getElem hi,(List.getElem?_eq_some_iff.mp hr').2]
        show some (HO.lst (_++[V.str (Str.empty++txtI r.1++Str.ofString " "++txtI r.2.1++Str.ofString ":"++Str.join (Str.ofString "") (r.2.2.map fun w=>Str.empty++Str.ofString " "++txtI w))])) = _
        rw [er]
        simp
  · rintro σ H2 ⟨sm,⟨a,b,c,rfl⟩,h2⟩
    rw [← lv,List.take_length] at h2
    refine ⟨rfl,_,rfl,_,p,_,rfl,rfl,SqL.of h2,Tx.joinOk_of (c:=[10]) (B:=902) (by decide) (fun y hy=>?_) (by rw [List.length_map]; omega) (by decide),?_⟩
    · obtain ⟨r,hr',rfl⟩:=List.mem_map.mp hy
      exact Tx.len_row (hsm r hr')
    exact q H2 sm
end
end Law

namespace L2
namespace Tx
open PySem
def wayOk (n:Nat):Bool:=let t:=txtI (n:Int); decide (1≤t.length∧t.length≤2) && t.cps.all (fun c=>decide (c∈(Str.ofString "0123456789").cps.toList)) && t.cps.all (· < 128) && (decide (t.length = 1) || (match t.cps[0]? with | some c=>decide (c≠48) | none=>false))
theorem wayOk_all:∀ n:Fin 100,wayOk n.val = true:=by decide +kernel
theorem way_facts {n:Int} (h0:0≤n) (h1:n < 100):(1≤(txtI n).length∧(txtI n).length≤2)∧(∀ (i c:Nat),(txtI n).cps[i]? = some c→c∈(Str.ofString "0123456789").cps.toList)∧(txtI n).cps.all (· < 128) = true∧((txtI n).length = 1∨∃ c,(txtI n).cps[0]? = some c∧c≠48):=by
  have e:=wayOk_all ⟨n.toNat,by omega⟩
  have en:((n.toNat:Nat):Int) = n:=by omega
  simp only [wayOk,en,Bool.and_eq_true,Bool.or_eq_true,decide_eq_true_eq] at e
  obtain ⟨⟨⟨a,b⟩,c⟩,d⟩:=e
  refine ⟨a,fun i k hk=>?_,c,?_⟩
  · have hb:=Array.all_eq_true.mp b
    obtain ⟨hi,ek⟩:=Array.getElem?_eq_some_iff.mp hk
    have z:=hb i hi
    rw [ek] at z
    exact of_decide_eq_true z
  · rcases d with d | d
    · exact .inl d
    · right
      revert d
      cases (txtI n).cps[0]? with
      | none=>intro d; cases d
      | some c=>intro d; exact ⟨c,rfl,of_decide_eq_true d⟩
end Tx
end L2
namespace Law
open PySem L2
section
seal PA PE PS PSs PT PI PG PGs PIf
variable {P:Program} {w:World} {K:PySem.W.Frag} {mg:Str→Option Value} {base:Heap} {f g:Addr} {fd gd:FuncData}
def spIsWay:Sp:=fun vs H Q _=>∃ n:Int,vs = [.str (txtI n)]∧0≤n∧n < 100∧∀ H',Same H H'→Q (.bl true) H'
theorem scIsWay:FnScope ["word"] ["word"] (defScope sIsWay):=⟨rfl,rfl,rfl,by decide +kernel,rfl,by decide +kernel,by decide +kernel⟩
theorem ndIsWay:(["sign"]:List Str).Nodup:=by decide +kernel
theorem ok_isway {tF:Tok} (F:Fun K "is_way" "is_way" sIsWay f fd) (mF:mg "FIGURES" = some (.str (Str.ofString "0123456789") tF)) (ml:mg "len" = none) (ma:mg "any" = none):FnOk P w K mg base CX0 1 f fd ["word"] spIsWay:=by
  refine F.ok scIsWay (fun vs H Q E h=>?_) (fun cdv A outer s H vs Q E hr h=>?_)
  · obtain ⟨n,rfl,_⟩:=h
    rfl
  obtain ⟨n,rfl,h0,h1,q⟩:=h
  refine ⟨_,pss_cons (ps_if (PW.pt (pw_or (pt_cmpR op_lt (pe_callB call_len_str rfl ml PySem.boot_len (pa_cons (pv 0) pa_nil)) pe_int (nomark _)) (pw_or (pt_cmpR op_gt (pe_callB call_len_str rfl ml PySem.boot_len (pa_cons (pv 0) pa_nil)) pe_int (nomark _))
      (pw_or1 (pt_val (pe_callB (call_anyB rfl) rfl ma (by decide +kernel:bootBuiltins "any" = some (.builtin "any")) (pa_cons (pe_comp (N:=["sign"]) (capt:=[none]) rfl (pi_str (pv 0)) rfl (by repeat (first | exact .nil | refine .cons rfl ?_))
        (by repeat (first | exact .nil | refine .skip (by decide) (by decide) ?_ | refine .free ⟨_,rfl⟩ ?_)) (.tgt .nil)
        (fun _ _ _ _ _=>pg_name (i:=0) ndIsWay rfl (Or.inl rfl)) (fun _ _ _ _ _=>pif_nil)
        (fun _ _ _ _ _=>pe_cmpR op_notIn_str (pv 0) (pe_glob (v:=.str (Str.ofString "0123456789")) rfl mF ⟨_,rfl⟩) rfl)) pa_nil))))))) (pss_one (ps_ret pe_bl)) pss_nil)
    (pss_one (ps_ret (pe_or (pe_cmpR op_eq (pe_callB call_len_str rfl ml PySem.boot_len (pa_cons (pv 0) pa_nil)) pe_int (nomark _)) (pe_one (pe_cmpR op_ne (pe_ix ix_str (pv 0) pe_int (fun _ _=>rfl)) pe_str (nomark _)))))),?_⟩
  obtain ⟨⟨l1,l2⟩,hc,ha,hz⟩:=Tx.way_facts h0 h1
  have sz:(10:Nat)≤sizeLine:=by decide
  refine ⟨_,rfl,_,rfl,by omega,_,_,rfl,rfl,_,rfl,?_⟩
  rw [decide_eq_false (show ¬ (((txtI n).length:Nat):Int) < 1 by omega)]
  refine iteF ?_
  refine ⟨_,rfl,_,rfl,by omega,_,_,rfl,rfl,_,rfl,?_⟩
  rw [decide_eq_false (show ¬ (((txtI n).length:Nat):Int) > 2 by omega)]
  refine iteF ?_
  refine ⟨_,rfl,_,rfl,ha,?_⟩
  have hsz:(txtI n).cps.size≤2:=l2
  refine comp_str (x:=txtI n) (fun D i ys H2=>Same H H2∧H D = none∧H2 D = some (.lst ys)∧ys = (List.replicate i false).map V.bl) ?_ ?_ ?_ ?_
  · exact fun D hD=>⟨same_new hD _,hD,upd_same,rfl⟩
  · rintro D i ys H2 hi ⟨sm,hD,h2,ey⟩
    refine ⟨h2,fun _=>?_⟩
    rw [ey]
    refine small1000 ?_
    simp
    omega
  · rintro D i c ys H2 hx ⟨sm,hD,h2,ey⟩
    have eb:(!(!(Builtin.Str.occurrences (Str.ofString "0123456789") ⟨#[c]⟩ 0 (Str.ofString "0123456789").length 1).isEmpty)) = false:=by
      rw [StrLaws.found_one,decide_eq_true (hc i c hx)]
      rfl
    refine ⟨trivial,_,rfl,_,_,rfl,rfl,?_⟩
    rw [eb]
    refine ⟨h2,fun b o e=>?_,hD,upd_same,?_⟩
    · rw [upd_ne (ne_of_none e hD)]
      exact sm b o e
    · rw [ey,List.replicate_succ',List.map_append]
      rfl
  · rintro D ys H2 ⟨sm,hD,h2,ey⟩
    refine ⟨D,List.replicate (txtI n).cps.size false,rfl,SqL.of (by rw [h2,ey]),?_⟩
    have e:(List.replicate (txtI n).cps.size false).any id = false:=by
      rw [List.any_eq_false]
      intro x hx
      rw [List.eq_of_mem_replicate hx]
      decide
    rw [e]
    refine ⟨_,rfl,iteF ?_⟩
    refine ⟨_,rfl,_,rfl,by omega,rfl,_,rfl,?_⟩
    rcases hz with hz | ⟨c,hz,hc0⟩
    · refine ifeqT (by omega) ?_
      exact q H2 sm
    · by_cases z1:(txtI n).length = 1
      · refine ifeqT (by omega) ?_
        exact q H2 sm
      · refine ifeqF (by omega) ?_
        refine ⟨_,rfl,txtI n,0,c,rfl,rfl,by omega,(by rw [show (0:Int) = ((0:Nat):Int) from rfl]; exact atI_nat (by simpa using hz)),rfl,?_⟩
        rw [decide_eq_false (fun z=>hc0 (by rw [show Str.ofString "0" = (⟨#[48]⟩:Str) by decide +kernel] at z; injection z with z; injection z with z; simpa using z))]
        exact q H2 sm
def words (r:Mi.Room):List V:=(txtI r.1::(txtI r.2.1++⟨#[58]⟩)::r.2.2.map txtI).map V.str
def hands:List (Key×V):=[(.inr "0",.int 0),(.inr "1",.int 1)]
def ranks:List (Key×V):=[(.inr "0:",.int 0),(.inr "1:",.int 1),(.inr "2:",.int 2),(.inr "3:",.int 3),(.inr "4:",.int 4),(.inr "5:",.int 5),(.inr "6:",.int 6),(.inr "7:",.int 7)]
theorem handD {n:Int} (h0:0≤n) (h1:n < 2):valV hands (.inr (txtI n)) = some (.int n):=by
  rcases (show n = 0∨n = 1 by omega) with rfl | rfl<;>decide +kernel
theorem rankD {n:Int} (h0:0≤n) (h1:n < 8):valV ranks (.inr (txtI n++⟨#[58]⟩)) = some (.int n):=by
  rcases (show n = 0∨n = 1∨n = 2∨n = 3∨n = 4∨n = 5∨n = 6∨n = 7 by omega) with rfl | rfl | rfl | rfl | rfl | rfl | rfl | rfl<;>decide +kernel
def spIsRow (K:PySem.W.Frag):Sp:=fun vs H Q _=>∃ (p:Addr) (r:Mi.Room),vs = [.ref p]∧SqL K H p (words r)∧Tx.Sm r∧r.2.2≠[]∧∀ H',Same H H'→Q (.bl true) H'
theorem scIsRow:FnScope ["words"] ["words"] (defScope sIsRow):=⟨rfl,rfl,rfl,by decide +kernel,rfl,by decide +kernel,by decide +kernel⟩
theorem ndIsRow:(["word"]:List Str).Nodup:=by decide +kernel
theorem ok_isrow {fW aH aR:Addr} {dW:FuncData} (F:Fun K "is_row" "is_row" sIsRow f fd) (GW:FnOk P w K mg base CX0 1 fW dW ["word"] spIsWay) (bW:Binds K dW ["word"] []) (kW:PySem.W.keepIn K (.ref fW) = true) (mW:mg "is_way" = some (.ref fW))
    (mH:mg "HANDS" = some (.ref aH)) (kH:KDw P w K aH hands) (mR:mg "RANKS" = some (.ref aR)) (kR:KDw P w K aR ranks) (ml:mg "len" = none) (ma:mg "all" = none):FnOk P w K mg base CX0 2 f fd ["words"] (spIsRow K):=by
  refine F.ok scIsRow (fun vs H Q E h=>?_) (fun cdv A outer s H vs Q E hr h=>?_)
  · obtain ⟨p,r,rfl,_⟩:=h
    rfl
  obtain ⟨p,r,rfl,hp,hsm,hne,q⟩:=h
  refine ⟨_,pss_cons (ps_if (PW.pt (pw_or (pt_cmpR op_lt (pe_callB call_len_seq rfl ml PySem.boot_len (pa_cons (pv 0) pa_nil)) pe_int (nomark _)) (pw_or (pt_cmpR op_notInD (pe_ix ix_list (pv 0) pe_int (fun _ _=>rfl)) (pe_glob (v:=.ref aH) rfl mH rfl) rfl)
      (pw_or1 (pt_cmpR op_notInD (pe_ix ix_list (pv 0) pe_int (fun _ _=>rfl)) (pe_glob (v:=.ref aR) rfl mR rfl) rfl))))) (pss_one (ps_ret pe_bl)) pss_nil)
    (pss_one (ps_ret (pe_callB (call_allB rfl) rfl ma PyProof.Rows.boot_all (pa_cons (pe_comp (N:=["word"]) (capt:=[none]) rfl (pi_list (pe_slice sl_list (pv 0) (po_some pe_int) po_none)) rfl (by repeat (first | exact .nil | refine .cons rfl ?_))
      (by repeat (first | exact .nil | refine .skip (by decide) (by decide) ?_ | refine .free ⟨_,rfl⟩ ?_)) (.tgt .nil)
      (fun _ _ _ _ _=>pg_name (i:=0) ndIsRow rfl (Or.inl rfl)) (fun _ _ _ _ _=>pif_nil)
      (fun _ _ _ _ _=>pe_call GW hr rfl mW kW bW .nil pass0 (pa_cons (pv 0) pa_nil))) pa_nil)))),?_⟩
  obtain ⟨⟨a1,a2⟩,⟨b1,b2⟩,c1,d1⟩:=id hsm
  have wl:(words r).length = r.2.2.length+2:=by simp [words]
  have wp:0 < r.2.2.length:=List.length_pos_iff.mpr hne
  refine ⟨_,rfl,p,_,rfl,.inl hp,_,_,rfl,rfl,_,rfl,?_⟩
  rw [decide_eq_false (show ¬ (((words r).length:Nat):Int) < 3 by omega)]
  refine iteF ?_
  refine ⟨_,rfl,p,_,_,_,rfl,rfl,hp,(show atI (words r) 0 = some (.str (txtI r.1)) from atI_nat (j:=0) rfl),.inr (txtI r.1),aH,hands,rfl,rfl,kH,_,rfl,?_⟩
  rw [handD a1 a2]
  refine iteF ?_
  refine ⟨_,rfl,p,_,_,_,rfl,rfl,hp,(show atI (words r) 1 = some (.str (txtI r.2.1++⟨#[58]⟩)) from atI_nat (j:=1) rfl),.inr (txtI r.2.1++⟨#[58]⟩),aR,ranks,rfl,rfl,kR,_,rfl,?_⟩
  rw [rankD b1 b2]
  refine iteF ?_
  refine ⟨_,rfl,_,rfl,p,_,rfl,hp,fun g hg=>?_⟩
  have ec:cutV (words r) (some ((2:Nat):Int)) none = (r.2.2.map txtI).map V.str:=by rw [cut_from _ (by omega)]; rfl
  rw [show (2:Int) = ((2:Nat):Int) from rfl,ec]
  have hs1:=same_new hg (.lst ((r.2.2.map txtI).map V.str))
  refine ⟨g,rfl,⟨_,SqL.of upd_same⟩,?_⟩
  generalize hH1:upd H g (.lst ((r.2.2.map txtI).map V.str)) = H1 at hs1
  have eg:H1 g = some (.lst ((r.2.2.map txtI).map V.str)):=by rw [← hH1]; exact upd_same
  refine comp_list (K:=K) (a:=g) (xs:=(r.2.2.map txtI).map V.str) (fun D i ys H2=>Same H1 H2∧H1 D = none∧H2 D = some (.lst ys)∧ys = (List.replicate i true).map V.bl) ?_ ?_ ?_ ?_
  · exact fun D hD=>⟨same_new hD _,hD,upd_same,rfl⟩
  · rintro D i ys H2 hi ⟨sm,hD,h2,ey⟩
    refine ⟨SqL.of (sm _ _ eg),h2,fun _=>?_⟩
    rw [ey]
    refine small1000 ?_
    rw [List.length_map,List.length_map] at hi
    simp
    omega
  · rintro D i x ys H2 hx ⟨sm,hD,h2,ey⟩
    rw [List.getElem?_map,List.getElem?_map] at hx
    obtain ⟨y,hy,exy⟩:=Option.map_eq_some_iff.mp hx
    obtain ⟨z,ez,exz⟩:=Option.map_eq_some_iff.mp hy
    subst exz exy
    obtain ⟨w1,w2⟩:=d1 z (List.mem_of_getElem? ez)
    refine ⟨trivial,_,rfl,z,rfl,w1,w2,fun H3 s3=>⟨s3 _ _ h2,fun b o e=>?_,hD,upd_same,?_⟩⟩
    · rw [upd_ne (ne_of_none e hD)]
      exact s3 _ _ (sm b o e)
    · rw [ey,List.replicate_succ',List.map_append]
      rfl
  · rintro D ys H2 ⟨sm,hD,h2,ey⟩
    refine ⟨D,List.replicate ((r.2.2.map txtI).map V.str).length true,rfl,SqL.of (by rw [h2,ey]),?_⟩
    have e:(List.replicate ((r.2.2.map txtI).map V.str).length true).all id = true:=by
      rw [List.all_eq_true]
      intro x hx
      rw [List.eq_of_mem_replicate hx]
      rfl
    rw [e]
    exact q H2 (hs1.trans sm)
end
end Law

namespace L2
namespace Tx
open PySem
theorem txt_free {n:Int} {c:Nat} (h0:0≤n) (h1:n < 100) (hc:c∉(Str.ofString "0123456789").cps.toList):c∉L (txtI n):=fun hm=>by
  obtain ⟨i,hi,e⟩:=List.mem_iff_getElem.mp hm
  refine hc ((way_facts h0 h1).2.1 i c ?_)
  rw [← Array.getElem?_toList,List.getElem?_eq_getElem hi,e]
theorem split_row {r:Mi.Room} (h:Sm r):Txt.split (row r) (Str.ofString " ") = txtI r.1::(txtI r.2.1++⟨#[58]⟩)::r.2.2.map txtI:=by
  obtain ⟨⟨a1,a2⟩,⟨b1,b2⟩,c1,d1⟩:=h
  rw [show Str.ofString " " = (⟨#[32]⟩:Str) by decide +kernel]
  have n32:32∉(Str.ofString "0123456789").cps.toList:=by decide +kernel
  refine split_join 32 (by simp) fun x hx=>?_
  rcases List.mem_cons.mp hx with rfl | hx
  · exact txt_free a1 (by omega) n32
  rcases List.mem_cons.mp hx with rfl | hx
  · show 32∉L _
    rw [L_append,List.mem_append]
    rintro (z | z)
    · exact txt_free b1 (by omega) n32 z
    · exact absurd z (by decide)
  · obtain ⟨w,hw,rfl⟩:=List.mem_map.mp hx
    obtain ⟨w1,w2⟩:=d1 w hw
    exact txt_free w1 w2 n32
theorem split_text {hs:List Mi.Room} (hne:hs≠[]) (h:∀ r∈hs,Sm r):Txt.split (text hs) (Str.ofString "\n") = hs.map row:=by
  rw [show Str.ofString "\n" = (⟨#[10]⟩:Str) by decide +kernel]
  have n10:10∉(Str.ofString "0123456789").cps.toList:=by decide +kernel
  refine split_join 10 (by simpa using hne) fun x hx=>?_
  obtain ⟨r,hr,rfl⟩:=List.mem_map.mp hx
  obtain ⟨⟨a1,a2⟩,⟨b1,b2⟩,c1,d1⟩:=h r hr
  show 10∉L _
  rw [L_row]
  simp only [List.mem_append,List.mem_cons,List.mem_flatMap,not_or,not_exists,not_and]
  refine ⟨txt_free a1 (by omega) n10,by decide,txt_free b1 (by omega) n10,by decide,fun w hw=>⟨by decide,?_⟩⟩
  obtain ⟨w1,w2⟩:=d1 w hw
  exact txt_free w1 w2 n10
theorem len_text {hs:List Mi.Room} (hn:hs.length≤80) (h:∀ r∈hs,Sm r):(text hs).length≤80000:=by
  have go:∀ l:List Mi.Room,(∀ r∈l,Sm r)→((l.map row).flatMap fun b=>10::L b).length≤903*l.length:=by
    intro l
    induction l with
    | nil=>intro _; simp
    | cons r l ih =>
      intro hl
      have e1:=len_row (hl r (by simp))
      have e2:=ih fun x hx=>hl x (List.mem_cons.mpr (.inr hx))
      rw [L_len] at e1
      rw [List.map_cons,List.flatMap_cons,List.length_append,List.length_cons,List.length_cons]
      omega
  cases hs with
  | nil=>exact Nat.zero_le _
  | cons r l =>
    have e1:=len_row (h r (by simp))
    have e2:=go l fun x hx=>h x (List.mem_cons.mpr (.inr hx))
    rw [L_len] at e1
    rw [List.length_cons] at hn
    rw [L_len,text,List.map_cons,L_join,List.length_append]
    omega
end Tx
end L2
namespace Law
open PySem L2
section
seal PA PE PS PSs PT PI PG PGs PIf
variable {P:Program} {w:World} {K:PySem.W.Frag} {mg:Str→Option Value} {base:Heap} {f g:Addr} {fd gd:FuncData}
def spRead:Sp:=fun vs H Q _=>∃ hs:List Mi.Room,vs = [.str (Tx.text hs)]∧hs≠[]∧hs.length≤80∧(∀ r∈hs,Tx.Sm r)∧(∀ r∈hs,r.2.2≠[])∧Mi.fault hs.length hs = -1∧∀ l H',Same H H'→H l = none→HallAt H' l hs→Q (.ref l) H'
theorem scRead:FnScope ["text","rows","hall","number","row","words"] ["text"] (defScope sRead):=⟨rfl,rfl,rfl,by decide +kernel,rfl,by decide +kernel,by decide +kernel⟩
theorem ok_read {fW fL aH aR:Addr} {dW dL:FuncData} {tM:Tok} (F:Fun K "read" "read" sRead f fd) (GW:FnOk P w K mg base CX0 2 fW dW ["words"] (spIsRow K)) (bW:Binds K dW ["words"] []) (kW:PySem.W.keepIn K (.ref fW) = true) (mW:mg "is_row" = some (.ref fW))
    (GL:FnOk P w K mg base CX0 3 fL dL ["hall"] spLooked) (bL:Binds K dL ["hall"] []) (kL:PySem.W.keepIn K (.ref fL) = true) (mL:mg "looked" = some (.ref fL))
    (mM:mg "MOST_ROWS" = some (.int 80 tM)) (mH:mg "HANDS" = some (.ref aH)) (kH:KDw P w K aH hands) (mR:mg "RANKS" = some (.ref aR)) (kR:KDw P w K aR ranks) (ml:mg "len" = none) (me:mg "enumerate" = none) (mt:mg "tuple" = none) (mi:mg "int" = none):FnOk P w K mg base CX0 4 f fd ["text"] spRead:=by
  refine F.ok scRead (fun vs H Q E h=>?_) (fun cdv A outer s H vs Q E hr h=>?_)
  · obtain ⟨hs,rfl,_⟩:=h
    rfl
  obtain ⟨hs,rfl,hne,hn,hsm,hw0,hf,q⟩:=h
  have hr2:L2.Room 2 _:=hr.mono (by decide)
  refine ⟨_,pss_cons (ps_set (i:=1) scRead.nd rfl (Or.inl rfl) (pe_bm PySem.F.plainAttrs_str PySem.F.slot_str_split PySem.F.type_str_split mt_split (pv 0) (pa_cons pe_str pa_nil)))
    (pss_cons (ps_if (pt_cmpR op_gt (pe_callB call_len_seq rfl ml PySem.boot_len (pa_cons (pv 1) pa_nil)) (pe_glob (v:=.int 80) rfl mM ⟨_,rfl⟩) (nomark _)) (pss_one ps_dead) pss_nil)
    (pss_cons (ps_set (i:=2) scRead.nd rfl (Or.inl rfl) (pe_lst pa_nil))
    (pss_cons (ps_for PassesOwn.never rfl (pi_enum rfl me (pa_cons (pv 1) pa_nil)) (pg_tup rfl (pgs_cons (pg_name (i:=3) scRead.nd rfl (Or.inl rfl)) (pgs_cons (pg_name (i:=4) scRead.nd rfl (Or.inl rfl)) pgs_nil)))
      (pss_cons (ps_set (i:=5) scRead.nd rfl (Or.inl rfl) (pe_bm PySem.F.plainAttrs_str PySem.F.slot_str_split PySem.F.type_str_split mt_split (pv 4) (pa_cons pe_str pa_nil)))
      (pss_cons (ps_if (pt_not (pt_val (pe_call GW hr2 rfl mW kW bW .nil pass0 (pa_cons (pv 5) pa_nil)))) (pss_one ps_dead) pss_nil)
      (pss_one (ps_expr (pe_bm PySem.F.plainAttrs_list PySem.F.slot_list_append PySem.F.type_list_append mt_append (pv 2) (pa_cons (pe_tup (pa_cons (pe_dgetK (pe_glob (v:=.ref aH) rfl mH rfl) (pe_ix ix_list (pv 5) pe_int (fun _ _=>rfl)) (fun _ _=>rfl))
        (pa_cons (pe_dgetK (pe_glob (v:=.ref aR) rfl mR rfl) (pe_ix ix_list (pv 5) pe_int (fun _ _=>rfl)) (fun _ _=>rfl))
        (pa_cons (pe_callTy call_tuple_of rfl mt PyProof.Rows.boot_tuple (pa_cons (pe_comp (N:=["word"]) (capt:=[none]) rfl (pi_list (pe_slice sl_list (pv 5) (po_some pe_int) po_none)) rfl (by repeat (first | exact .nil | refine .cons rfl ?_))
          (by repeat (first | exact .nil | refine .skip (by decide) (by decide) ?_ | refine .free ⟨_,rfl⟩ ?_)) (.tgt .nil)
          (fun _ _ _ _ _=>pg_name (i:=0) ndIsRow rfl (Or.inl rfl)) (fun _ _ _ _ _=>pif_nil)
          (fun _ _ _ _ _=>pe_callTy call_int_num rfl mi PyProof.Rows.boot_int (pa_cons (pv 0) pa_nil))) pa_nil)) pa_nil)))) pa_nil)))))))
    (pss_cons (ps_expr (pe_call GL hr rfl mL kL bL .nil pass0 (pa_cons (pv 2) pa_nil)))
    (pss_one (ps_ret (pv 2))))))),?_⟩
  have lt:=Tx.len_text hn hsm
  have sz:(100000:Nat)≤sizeLine:=by decide
  refine ⟨_,rfl,rfl,_,_,rfl,rfl,(by decide +kernel),by omega,fun R hR=>?_⟩
  rw [Tx.split_text hne hsm]
  have s1:=same_new hR (.lst ((hs.map Tx.row).map V.str))
  generalize hH1:upd H R (.lst ((hs.map Tx.row).map V.str)) = H1 at s1
  have eR:H1 R = some (.lst ((hs.map Tx.row).map V.str)):=by rw [← hH1]; exact upd_same
  refine ⟨_,rfl,R,_,rfl,.inl (SqL.of eR),_,_,rfl,rfl,_,rfl,?_⟩
  rw [decide_eq_false (show ¬ ((((hs.map Tx.row).map V.str).length:Nat):Int) > 80 by rw [List.length_map,List.length_map]; omega)]
  refine iteF ?_
  refine ⟨(by show 0≤sizeLine; decide),fun A' hA=>?_⟩
  have sA:=same_new hA (.lst [])
  refine ⟨_,rfl,R,rfl,⟨_,SqL.of (sA _ _ eR)⟩,?_⟩
  refine for_enum (K:=K) (a:=R) (xs:=(hs.map Tx.row).map V.str) (fun i σ H2=>Same H1 H2∧(∃ a b c,σ = [some (.str (Tx.text hs)),some (.ref R),some (.ref A'),a,b,c])∧∃ vs,H2 A' = some (.lst vs)∧Paired (RoomAt H2) (hs.take i) vs) ⟨sA,⟨_,_,_,rfl⟩,[],upd_same,.nil⟩ (fun i σ H2 _ ⟨sm,_⟩=>sm.seq (SqL.of eR)) ?_ ?_
  · rintro i x σ H2 p hx ⟨sm,⟨a,b,c,rfl⟩,vs,h2,pr⟩ hp
    rw [List.getElem?_map,List.getElem?_map] at hx
    obtain ⟨y,hy,exy⟩:=Option.map_eq_some_iff.mp hx
    obtain ⟨r,hr',exr⟩:=Option.map_eq_some_iff.mp hy
    subst exr exy
    have hi:=(List.getElem?_eq_some_iff.mp hr').1
    have hrm:=List.mem_of_getElem? hr'
    have rm:=hsm r hrm
    obtain ⟨⟨a1,a2⟩,⟨b1,b2⟩,c1,d1⟩:=id rm
    have lr:=Tx.len_row rm
    have lvs:(hs.take i).length = vs.length:=Paired.length pr
    rw [List.length_take] at lvs
    refine ⟨p,_,rfl,SqT.of upd_same,rfl,_,_,rfl,_,_,rfl,rfl,?_⟩
    have s3:=same_new hp (.tup [.int (i:Int),.str (Tx.row r)])
    refine ⟨_,rfl,rfl,_,_,rfl,rfl,(by decide +kernel),by omega,fun W hW=>?_⟩
    rw [Tx.split_row rm]
    have s4:=s3.trans (same_new hW (.lst ((txtI r.1::(txtI r.2.1++⟨#[58]⟩)::r.2.2.map txtI).map V.str)))
    generalize hH4:upd (upd H2 p (.tup [.int (i:Int),.str (Tx.row r)])) W (.lst ((txtI r.1::(txtI r.2.1++⟨#[58]⟩)::r.2.2.map txtI).map V.str)) = H4 at s4
    have eW:H4 W = some (.lst (words r)):=by rw [← hH4]; exact upd_same
    refine ⟨_,rfl,W,r,rfl,SqL.of eW,rm,hw0 r hrm,fun H5 s5=>⟨_,rfl,iteF ?_⟩⟩
    have s25:=s4.trans s5
    have eW5:=s5 _ _ eW
    refine ⟨_,rfl,.inl ⟨rfl,_,SqL.of (s25 _ _ h2)⟩,?_⟩
    refine ⟨_,rfl,W,_,_,_,rfl,rfl,SqL.of eW5,(show atI (words r) 0 = some (.str (txtI r.1)) from atI_nat (j:=0) rfl),aH,hands,.inr (txtI r.1),_,rfl,rfl,kH,handD a1 a2,?_⟩
    refine ⟨_,rfl,W,_,_,_,rfl,rfl,SqL.of eW5,(show atI (words r) 1 = some (.str (txtI r.2.1++⟨#[58]⟩)) from atI_nat (j:=1) rfl),aR,ranks,.inr (txtI r.2.1++⟨#[58]⟩),_,rfl,rfl,kR,rankD b1 b2,?_⟩
    refine ⟨_,rfl,_,rfl,W,_,rfl,SqL.of eW5,fun g hg=>?_⟩
    have ec:cutV (words r) (some ((2:Nat):Int)) none = (r.2.2.map txtI).map V.str:=by rw [cut_from _ (by omega)]; rfl
    rw [show (2:Int) = ((2:Nat):Int) from rfl,ec]
    refine ⟨g,rfl,⟨_,SqL.of upd_same⟩,?_⟩
    have s6:=same_new hg (.lst ((r.2.2.map txtI).map V.str))
    generalize hH6:upd H5 g (.lst ((r.2.2.map txtI).map V.str)) = H6 at s6
    have eg:H6 g = some (.lst ((r.2.2.map txtI).map V.str)):=by rw [← hH6]; exact upd_same
    refine comp_list (K:=K) (a:=g) (xs:=(r.2.2.map txtI).map V.str) (fun D i ys H7=>Same H6 H7∧H6 D = none∧H7 D = some (.lst ys)∧ys = (r.2.2.take i).map V.int) ?_ ?_ ?_ ?_
    · exact fun D hD=>⟨same_new hD _,hD,upd_same,rfl⟩
    · rintro D i ys H7 hi7 ⟨sm7,hD,h7,ey⟩
      refine ⟨SqL.of (sm7 _ _ eg),h7,fun _=>?_⟩
      rw [ey]
      refine small1000 ?_
      rw [List.length_map,List.length_take]
      omega
    · rintro D i x ys H7 hx7 ⟨sm7,hD,h7,ey⟩
      rw [List.getElem?_map,List.getElem?_map] at hx7
      obtain ⟨y,hy,exy⟩:=Option.map_eq_some_iff.mp hx7
      obtain ⟨z,ez,exz⟩:=Option.map_eq_some_iff.mp hy
      subst exz exy
      obtain ⟨w1,w2⟩:=d1 z (List.mem_of_getElem? ez)
      refine ⟨trivial,_,rfl,z,rfl,w1,by omega,h7,fun b o e=>?_,hD,upd_same,?_⟩
      · rw [upd_ne (ne_of_none e hD)]
        exact sm7 _ _ e
      · have hz:=(List.getElem?_eq_some_iff.mp ez).1
        rw [ey,List.take_succ_eq_append_getElem hz,(List.getElem?_eq_some_iff.mp ez).2]
        simp
    · rintro D ys H7 ⟨sm7,hD,h7,ey⟩
      rw [List.length_map,List.length_map,List.take_length] at ey
      subst ey
      refine ⟨D,_,rfl,.inl ⟨SqL.of h7,fun T hT=>?_⟩⟩
      refine ⟨(by show 3≤sizeLine; decide),fun p2 hp2=>?_⟩
      have s8:=same_new hT (.tup (r.2.2.map V.int))
      have s9:=same_new hp2 (.tup [.int r.1,.int r.2.1,.ref T])
      have s29:Same H2 (upd (upd H7 T (.tup (r.2.2.map V.int))) p2 (.tup [.int r.1,.int r.2.1,.ref T])):=s25.trans (s6.trans (sm7.trans (s8.trans s9)))
      have eA:=s29 _ _ h2
      have eT:(upd (upd H7 T (.tup (r.2.2.map V.int))) p2 (.tup [.int r.1,.int r.2.1,.ref T])) T = some (.tup (r.2.2.map V.int)):=s9 _ _ upd_same
      have eP:(upd (upd H7 T (.tup (r.2.2.map V.int))) p2 (.tup [.int r.1,.int r.2.1,.ref T])) p2 = some (.tup [.int r.1,.int r.2.1,.ref T]):=upd_same
      generalize upd (upd H7 T (.tup (r.2.2.map V.int))) p2 (.tup [.int r.1,.int r.2.1,.ref T]) = H9 at s29 eA eT eP
      refine ⟨A',_,_,rfl,rfl,eA,small1000 (by omega),?_⟩
      have kt:∀ b xs,H9 b = some (.tup xs)→(upd H9 A' (.lst (vs++[.ref p2]))) b = some (.tup xs):=fun b xs e=>by
        rw [upd_ne (ne_of e eA (by intro z; cases z))]
        exact e
      refine ⟨fun b o e=>?_,⟨_,_,_,rfl⟩,vs++[.ref p2],upd_same,?_⟩
      · rw [upd_ne (ne_of_none e hA)]
        exact s29 _ _ (sm _ _ e)
      · rw [List.take_succ_eq_append_getElem hi,(List.getElem?_eq_some_iff.mp hr').2]
        exact Paired.snoc (rooms_tups pr fun b xs e=>kt b xs (s29 _ _ e)) ⟨p2,T,rfl,kt _ _ eP,kt _ _ eT⟩
  · rintro σ H2 ⟨sm,⟨a,b,c,rfl⟩,vs,h2,pr⟩
    rw [List.length_map,List.length_map,List.take_length] at pr
    have hall:HallAt H2 A' hs:=⟨vs,h2,pr⟩
    refine ⟨_,rfl,A',hs,rfl,hall,hf,fun H3 s3=>⟨_,rfl,q A' H3 (s1.trans (sm.trans s3)) ?_ (hall.same s3)⟩⟩
    cases z:H A' with
    | none=>rfl
    | some o=>exact absurd (s1 _ _ z) (by rw [hA]; exact fun z=>nomatch z)
end
end Law

namespace Mi
def mvOk:List Room→List Int→Bool
  | [],_=>true
  | _::_,[]=>false
  | r::t,m::u=>decide (m∈r.2.2) && mvOk t u
end Mi
namespace L2
open PySem
theorem inV_int (m:Int):∀ ws:List Int,inV (.int m) (ws.map V.int) = decide (m∈ws)
  | []=>rfl
  | w::r=>by
    have ih:=inV_int m r
    unfold inV at ih ⊢
    rw [List.map_cons,List.any_cons,ih]
    show ((w == m) || _) = _
    by_cases e:w = m
    · subst e; simp
    · have e2:¬ m = w:=fun z=>e z.symm
      rw [beq_eq_false_iff_ne.mpr e]
      simp [e2]
theorem flat_ints:∀ ws:List Int,(ws.map V.int).all flatV = true
  | []=>rfl
  | w::r=>by rw [List.map_cons,List.all_cons,flat_ints r]; rfl
end L2
namespace Law
open PySem L2
abbrev sWalk:Stmt:=top 31
abbrev sLookMv:Stmt:=top 32
section
seal PA PE PS PSs PT PI PG PGs PIf
variable {P:Program} {w:World} {K:PySem.W.Frag} {mg:Str→Option Value} {base:Heap} {f g:Addr} {fd gd:FuncData}
def spLookMv (K:PySem.W.Frag):Sp:=fun vs H Q _=>∃ (l mq:Addr) (hs:List Mi.Room) (ms:List Int),vs = [.ref l,.ref mq]∧HallAt H l hs∧SqL K H mq (ms.map V.int)∧hs.length = ms.length∧hs.length < 1000 ∧
  Mi.mvOk hs ms = true∧∀ H',Same H H'→Q .non H'
theorem scLookMv:FnScope ["hall","moves","room","hand","rank","ways"] ["hall","moves"] (defScope sLookMv):=⟨rfl,rfl,rfl,by decide +kernel,rfl,by decide +kernel,by decide +kernel⟩
theorem ok_lookmv (F:Fun K "look_at_moves" "look_at_moves" sLookMv f fd) (me:mg "enumerate" = none):FnOk P w K mg base CX0 1 f fd ["hall","moves"] (spLookMv K):=by
  refine F.ok scLookMv (fun vs H Q E h=>?_) (fun cdv A outer s H vs Q E hr h=>?_)
  · obtain ⟨l,mq,hs,ms,rfl,_⟩:=h
    rfl
  obtain ⟨l,mq,hs,ms,rfl,hA,hM,hlm,hlen,h0,q⟩:=h
  refine ⟨_,pss_one (ps_for PassesOwn.never rfl (pi_enum rfl me (pa_cons (pv 0) pa_nil))
      (pg_tup rfl (pgs_cons (pg_name (i:=2) scLookMv.nd rfl (Or.inl rfl)) (pgs_cons (pg_tup rfl (pgs_cons (pg_name (i:=3) scLookMv.nd rfl (Or.inl rfl)) (pgs_cons (pg_name (i:=4) scLookMv.nd rfl (Or.inl rfl)) (pgs_cons (pg_name (i:=5) scLookMv.nd rfl (Or.inl rfl)) pgs_nil)))) pgs_nil)))
      (pss_one (ps_if (pt_cmpR op_notIn_seq (pe_ix ix_list (pv 1) (pv 2) (fun _ _=>rfl)) (pv 5) rfl)
        (pss_one ps_dead) pss_nil))),?_⟩
  obtain ⟨vs,el,pr⟩:=id hA
  have lv:hs.length = vs.length:=Paired.length pr
  refine ⟨_,rfl,l,rfl,⟨vs,SqL.of el⟩,?_⟩
  refine for_enum (K:=K) (a:=l) (xs:=vs) (fun i σ H2=>Same H H2∧(∃ a b d e,σ = [some (.ref l),some (.ref mq),a,b,d,e])∧Mi.mvOk hs ms = Mi.mvOk (hs.drop i) (ms.drop i)) ⟨Same.refl H,⟨_,_,_,_,rfl⟩,rfl⟩ (fun i σ H2 _ ⟨sm,_⟩=>sm.seq (SqL.of el)) ?_ ?_
  · rintro i x σ H2 p hx ⟨sm,⟨a,b,d,e,rfl⟩,hf⟩ hp
    obtain ⟨r,hr',pa,qa,rfl,h1,h2⟩:=pair_back pr hx
    have hi':i < ms.length:=by have:=(List.getElem?_eq_some_iff.mp hr').1; omega
    have hm:ms[i]? = some ms[i]:=List.getElem?_eq_getElem hi'
    rw [drop_at hr',drop_at hm,Mi.mvOk] at hf
    have sm3:Same H (upd H2 p (.tup [.int (i:Int),.ref pa])):=sm.trans (same_new hp _)
    have h13:=sm3 _ _ h1
    have h23:=sm3 _ _ h2
    refine ⟨p,_,rfl,SqT.of upd_same,rfl,_,_,rfl,_,_,rfl,pa,_,rfl,SqT.of h13,rfl,_,_,rfl,_,_,rfl,_,_,rfl,rfl,rfl,?_⟩
    refine ⟨_,rfl,_,rfl,mq,_,_,V.int ms[i],rfl,rfl,sm3.seq hM,atI_nat (by rw [List.getElem?_map,hm]; rfl),_,rfl,qa,_,rfl,.inr (SqT.of h23),rfl,flat_ints _,_,rfl,?_⟩
    rw [inV_int]
    by_cases hin:ms[i]∈r.2.2
    · rw [decide_eq_true hin] at hf ⊢
      refine iteF ?_
      rw [Bool.true_and] at hf
      exact ⟨sm3,⟨_,_,_,_,rfl⟩,hf⟩
    · rw [decide_eq_false hin] at hf ⊢
      refine iteT ?_
      rw [Bool.false_and] at hf
      rw [h0] at hf
      cases hf
  · rintro σ H2 ⟨sm,⟨a,b,d,e,rfl⟩,hf⟩
    rw [← lv,List.drop_length,Mi.mvOk] at hf
    exact q _ sm
def spWalk (K:PySem.W.Frag):Sp:=fun vs H Q _=>∃ (l mq:Addr) (st:Int) (hs:List Mi.Room) (ms:List Int),vs = [.ref l,.int st,.ref mq]∧HallAt H l hs∧SqL K H mq (ms.map V.int)∧hs.length = ms.length∧hs.length < 1000 ∧
  (∀ x∈ms,0≤x∧x < (hs.length:Int))∧(0≤st∧st < (hs.length:Int))∧Mi.mvOk hs ms = true∧∀ H',Same H H'→∀ (t a b:Addr) (tr:List Int) (x:Int),Mi.fin ms hs.length [] st = (tr,x)→x∈tr→H a = none→H b = none→H' t = some (.tup [.ref a,.ref b])→H' a = some (.lst ((tr.take (tr.idxOf x)).map V.int))→H' b = some (.lst ((tr.drop (tr.idxOf x)).map V.int))→Q (.ref t) H'
theorem scWalk:FnScope ["hall","start","moves","came","room","path"] ["hall","start","moves"] (defScope sWalk):=⟨rfl,rfl,rfl,by decide +kernel,rfl,by decide +kernel,by decide +kernel⟩
theorem ok_walk {fI fM:Addr} {dI dM:FuncData} (F:Fun K "walk" "walk" sWalk f fd) (GI:FnOk P w K mg base CX0 1 fI dI ["hall","number"] (spIsRoom K)) (bI:Binds K dI ["hall","number"] []) (kI:PySem.W.keepIn K (.ref fI) = true) (mI:mg "is_room" = some (.ref fI))
    (GM:FnOk P w K mg base CX0 1 fM dM ["hall","moves"] (spLookMv K)) (bM:Binds K dM ["hall","moves"] []) (kM:PySem.W.keepIn K (.ref fM) = true) (mM:mg "look_at_moves" = some (.ref fM))
    (ml:mg "len" = none) (mli:mg "list" = none):FnOk P w K mg base CX0 2 f fd ["hall","start","moves"] (spWalk K):=by
  refine F.ok scWalk (fun vs H Q E h=>?_) (fun cdv A outer s H vs Q E hr h=>?_)
  · obtain ⟨l,mq,st,hs,ms,rfl,_⟩:=h
    rfl
  obtain ⟨l,mq,st,hs,ms,rfl,hA,hM,hlm,hlen,hin',hst,ok,q⟩:=h
  have hu:=hu_of hr
  refine ⟨_,pss_cons (ps_if (pt_not (pt_val (pe_call GI hr rfl mI kI bI .nil pass0 (pa_cons (pv 0) (pa_cons (pv 1) pa_nil))))) (pss_one ps_dead) pss_nil)
    (pss_cons (ps_expr (pe_call GM hr rfl mM kM bM .nil pass0 (pa_cons (pv 0) (pa_cons (pv 2) pa_nil))))
    (pss_cons (ps_set (i:=3) scWalk.nd rfl (Or.inl rfl) pe_dnewK)
    (pss_cons (ps_set (i:=4) scWalk.nd rfl (Or.inl rfl) (pv 1))
    (pss_cons (ps_while PassesOwn.never (pt_cmp (pc_dnotin hu (pv 4) (pv 3)))
      (pss_cons (ps_dput hu (pv 3) (pv 4) (pe_callB call_lenD rfl ml PySem.boot_len (pa_cons (pv 3) pa_nil)) rfl) (pss_one (ps_set (i:=4) scWalk.nd rfl (Or.inl rfl) (pe_ix ix_list (pv 2) (pv 4) (fun _ _=>rfl))))))
    (pss_cons (ps_set (i:=5) scWalk.nd rfl (Or.inl rfl) (pe_callTy (call_listD rfl) rfl mli PyProof.Rows.boot_list (pa_cons (pv 3) pa_nil)))
    (pss_one (ps_ret (pe_tup (pa_cons (pe_slice sl_list (pv 5) po_none (po_some (pe_dget hu (pv 3) (pv 4) (fun _ _=>rfl)))) (pa_cons (pe_slice sl_list (pv 5) (po_some (pe_dget hu (pv 3) (pv 4) (fun _ _=>rfl))) po_none) pa_nil)))))))))),?_⟩
  obtain ⟨vs,el,pr⟩:=id hA
  have lv:hs.length = vs.length:=Paired.length pr
  refine ⟨_,rfl,_,rfl,l,vs,st,rfl,SqL.of el,_,rfl,?_⟩
  rw [← lv]
  · rw [decide_eq_true hst]
    refine iteF ?_
    refine ⟨_,rfl,_,rfl,l,mq,hs,ms,rfl,hA,hM,hlm,hlen,ok,fun H1 s1=>?_⟩
    intro d hd
    refine ⟨_,rfl,?_⟩
    have s2:Same H (upd H1 d (.dK [])):=s1.trans (same_new hd _)
    have hd0:H d = none:=s1.free hd
    have mvin:∀ x:Int,0≤x∧x < (hs.length:Int)→0≤Mi.mv ms x∧Mi.mv ms x < (hs.length:Int)∧ms[x.toNat]? = some (Mi.mv ms x):=fun x hx=>by
      have hi:x.toNat < ms.length:=by omega
      have e:ms[x.toNat]? = some (Mi.mv ms x):=by
        unfold Mi.mv
        rw [List.getD,List.getElem?_eq_getElem hi]
        rfl
      obtain ⟨b0,b1⟩:=hin' _ (List.mem_of_getElem? e)
      exact ⟨b0,b1,e⟩
    refine ⟨fun m σ H2=>∃ (tr:List Int) (x:Int),m = hs.length - tr.length∧σ = [some (.ref l),some (.int st),some (.ref mq),some (.ref d),some (.int x),none]∧Mi.Way hs.length ms st tr x∧H2 d = some (.dK (Mi.came tr 0))∧Same H H2,
      ⟨_,[],st,rfl,rfl,.start hst,upd_same,s2⟩,?_⟩
    rintro m σ H2 ⟨tr,x,rfl,rfl,wy,h2,sm⟩
    refine ⟨_,rfl,_,rfl,d,_,rfl,DGet.k (k:=Sum.inl x) h2,_,rfl,?_⟩
    rw [Mi.came_val]
    by_cases hx:x∈tr
    · rw [if_pos hx]
      refine iteF ?_
      refine ⟨_,rfl,d,_,rfl,h2,fun pt hpt=>?_⟩
      rw [Mi.came_keys]
      have g:∀ H',H' d = some (.dK (Mi.came tr 0))→DGet H' d (kV (.inl x)) (some (.int ((tr.idxOf x:Nat):Int))):=fun H' e=>by
        have z:=DGet.k (k:=Sum.inl x) e
        rw [Mi.came_val,if_pos hx,Nat.zero_add] at z
        exact z
      have d3:(upd H2 pt (.lst (tr.map V.int))) d = some (.dK (Mi.came tr 0)):=by rw [upd_ne (ne_of_none h2 hpt)]; exact h2
      refine ⟨_,rfl,_,rfl,_,rfl,d,_,rfl,g _ d3,_,rfl,pt,_,rfl,SqL.of upd_same,fun a ha=>?_⟩
      have d4:(upd (upd H2 pt (.lst (tr.map V.int))) a (.lst (cutV (tr.map V.int) none (some ((tr.idxOf x:Nat):Int))))) d = some (.dK (Mi.came tr 0)):=by rw [upd_ne (ne_of_none d3 ha)]; exact d3
      refine ⟨_,rfl,_,rfl,_,rfl,d,_,rfl,g _ d4,_,rfl,pt,tr.map V.int,rfl,SqL.of (by rw [upd_ne (ne_of_none upd_same ha),upd_same]),fun b hb=>⟨(by show 2≤sizeLine; decide),fun t ht=>?_⟩⟩
      refine (q _ (sm.trans ((same_new hpt _).trans ((same_new ha _).trans ((same_new hb _).trans (same_new ht _)))))) t a b tr x (wy.done hx) hx (sm.free ((same_new hpt _).free ha)) (sm.free ((same_new hpt _).free ((same_new ha _).free hb))) upd_same ?_ ?_
      · rw [upd_ne (ne_of_none (by rw [upd_ne (ne_of_none upd_same hb),upd_same]) ht),upd_ne (ne_of_none upd_same hb),upd_same,cut_to _ (by omega),List.map_take]
        simp
      · rw [upd_ne (ne_of_none upd_same ht),upd_same,cut_from _ (by omega),List.map_drop]
        simp
    · rw [if_neg hx]
      have hl:=wy.lt hx
      obtain ⟨m0,m1,m2⟩:=mvin x wy.ain
      refine iteT ⟨fun σ' H'=>∃ m',m' < hs.length - tr.length∧∃ (tr:List Int) (x:Int),m' = hs.length - tr.length∧σ' = [some (.ref l),some (.int st),some (.ref mq),some (.ref d),some (.int x),none]∧Mi.Way hs.length ms st tr x∧H' d = some (.dK (Mi.came tr 0))∧Same H H',fun _ _ h=>h,?_⟩
      refine ⟨_,rfl,d,_,rfl,h2,_,rfl,_,rfl,d,_,rfl,DPut.k (k:=Sum.inl x) h2 (by rw [Mi.came_len]; exact small1000 (by omega)),?_⟩
      have e3:putK (Mi.came tr 0) (Sum.inl x:Key) (V.int ((Mi.came tr 0).length:Int)) = Mi.came (tr++[x]) 0:=by
        rw [putK_new _ (by rw [Mi.came_val,if_neg hx]),Mi.came_snoc,Mi.came_len,Nat.zero_add]
      rw [e3]
      have sm3:Same H (upd H2 d (.dK (Mi.came (tr++[x]) 0))):=fun b o e=>by rw [upd_ne (ne_of_none e hd0)]; exact sm b o e
      have hat:atI (ms.map V.int) x = some (.int (Mi.mv ms x)):=by
        have z:=atI_nat (xs:=ms.map V.int) (v:=V.int (Mi.mv ms x)) (j:=x.toNat) (by rw [List.getElem?_map,m2]; rfl)
        rwa [show ((x.toNat:Nat):Int) = x by have:=wy.ain; omega] at z
      exact ⟨_,rfl,_,rfl,mq,_,_,_,rfl,rfl,sm3.seq hM,hat,_,(by rw [List.length_append,List.length_singleton]; omega:hs.length - (tr++[x]).length < hs.length - tr.length),tr++[x],_,rfl,rfl,wy.next hx ⟨m0,m1⟩,upd_same,sm3⟩
end
end Law

namespace Mi
open L2
theorem ways_in {c m:Int} (h:0 < m):∀ x∈ways c m,0≤x∧x < m:=by
  have a1:=Int.emod_nonneg (c / 32) (show m≠0 by omega)
  have a2:=Int.emod_lt_of_pos (c / 32) h
  have b1:=Int.emod_nonneg (c / 2560) (show m≠0 by omega)
  have b2:=Int.emod_lt_of_pos (c / 2560) h
  have c1:=Int.emod_nonneg (c / 204800) (show m≠0 by omega)
  have c2:=Int.emod_lt_of_pos (c / 204800) h
  intro x hx
  unfold ways at hx
  split at hx
  · obtain ⟨i,hi,rfl⟩:=List.mem_map.mp hx
    have:=List.mem_range.mp hi
    omega
  · have:=List.mem_of_mem_take (mem_sset.mp hx)
    simp only [List.mem_cons,List.not_mem_nil,or_false] at this
    rcases this with rfl | rfl | rfl<;>omega
theorem ways_ne {c m:Int} (h:0 < m):ways c m≠[]:=by
  have a2:=Int.emod_lt_of_pos (c / 32) h
  have a1:=Int.emod_nonneg (c / 32) (show m≠0 by omega)
  have t0:=Int.emod_nonneg (c / 16) (show (3:Int)≠0 by decide)
  have hx:c / 32 % m∈ways c m:=by
    unfold ways
    split
    · exact List.mem_map.mpr ⟨0,List.mem_range.mpr (by omega),by simp⟩
    · refine mem_sset.mpr ?_
      obtain ⟨k,hk⟩:∃ k,(1+c / 16 % 3).toNat = k+1:=⟨(1+c / 16 % 3).toNat - 1,by omega⟩
      rw [hk,List.take_succ_cons]
      exact List.mem_cons_self
  intro e
  rw [e] at hx
  cases hx
theorem hall_room {ns:List Int} {k:Nat} {most ranks:Int} (h1:0 < most) (h2:most≤80):∀ r∈hall ns k most ranks,r.2.2.length≤80∧r.2.2≠[]∧∀ x∈r.2.2,0≤x∧x < ((hall ns k most ranks).length:Int):=fun r hr=>by
  obtain ⟨j,_,rfl⟩:=List.mem_map.mp hr
  have mp:=many_pos (ns:=ns) (k:=k) h1
  rw [hall_len]
  refine ⟨ways_len (by omega) (by omega),ways_ne (by omega),fun x hx=>?_⟩
  have:=ways_in (show 0 < many ns k most by omega) x hx
  omega
theorem ways_rise (c m:Int):(ways c m).Pairwise (· < ·):=by
  unfold ways
  split
  · rw [List.pairwise_map]
    exact List.pairwise_lt_range.imp fun h=>by omega
  · exact sset_rises _
theorem wf_ok {n:Int}:∀ {ws:List Int} {last:Int},(∀ w∈ws,0≤w∧w < n)→(∀ w∈ws,last < w)→ws.Pairwise (· < ·)→wf n last ws = -1
  | [],_,_,_,_=>rfl
  | w::r,last,h1,h2,h3=>by
    obtain ⟨a,b⟩:=h1 w (by simp)
    have c:=h2 w (by simp)
    obtain ⟨d,e⟩:=List.pairwise_cons.mp h3
    rw [wf,if_neg (by omega),if_neg (by omega)]
    exact wf_ok (fun x hx=>h1 x (List.mem_cons.mpr (.inr hx))) d e
theorem fault_ok {n:Int}:∀ {l:List Room},(∀ r∈l,r.2.2≠[]∧wf n (-1) r.2.2 = -1)→fault n l = -1
  | [],_=>rfl
  | r::t,h=>by
    obtain ⟨a,b⟩:=h r (by simp)
    rw [fault,if_neg a,if_pos b]
    exact fault_ok fun x hx=>h x (List.mem_cons.mpr (.inr hx))
structure Good (hs:List Room):Prop where
  ne:hs≠[]
  len:hs.length≤80
  sm:∀ r∈hs,Tx.Sm r
  ws:∀ r∈hs,r.2.2≠[]
  ok:fault hs.length hs = -1
theorem hall_good {ns:List Int} {k:Nat} {most:Int} (h1:0 < most) (h2:most≤80):Good (hall ns k most 8):=by
  have mp:=many_pos (ns:=ns) (k:=k) h1
  have hl:(hall ns k most 8).length = (many ns k most).toNat:=hall_len
  have hr:=hall_room (ns:=ns) (k:=k) (ranks:=8) h1 h2
  have rise:∀ r∈hall ns k most 8,r.2.2.Pairwise (· < ·)∧(0≤r.1∧r.1 < 2)∧(0≤r.2.1∧r.2.1 < 8):=fun r h=>by
    obtain ⟨j,_,rfl⟩:=List.mem_map.mp h
    refine ⟨ways_rise _ _,?_,?_⟩
    · show 0≤_ % 2∧_ % 2 < 2
      omega
    · show 0≤_ / 2 % 8∧_ / 2 % 8 < 8
      omega
  refine ⟨fun e=>?_,by omega,fun r h=>?_,fun r h=>(hr r h).2.1,fault_ok fun r h=>⟨(hr r h).2.1,wf_ok (hr r h).2.2 (fun x hx=>?_) (rise r h).1⟩⟩
  · rw [e] at hl
    simp at hl
    omega
  · obtain ⟨a,b,c⟩:=hr r h
    refine ⟨(rise r h).2.1,(rise r h).2.2,a,fun x hx=>?_⟩
    have:=c x hx
    omega
  · have:=(hr r h).2.2 x hx
    omega
end Mi

namespace Zi
theorem nodup_leI:∀ {l R:List Int},l.Nodup→(∀ x∈l,x∈R)→l.length≤R.length
  | [],_,_,_=>Nat.zero_le _
  | a::l,R,h,s=>by
    obtain ⟨h1,h2⟩:=List.nodup_cons.mp h
    have:=nodup_leI (R:=R.erase a) h2 fun x hx=>(List.mem_erase_of_ne (fun (z:x = a)=>h1 (z▸hx))).mpr (s x (List.mem_cons.mpr (.inr hx)))
    rw [List.length_erase_of_mem (s a (by simp))] at this
    have:=List.length_pos_of_mem (s a (by simp))
    rw [List.length_cons]
    omega
theorem Rch.trans {E:Int→Int→Prop} {b:Int→Prop} {r t:Int} (h:Rch E b r t):∀ {s:Int},Rch E b t s→Rch E b r s:=by
  intro s h2
  induction h2 with
  | one e hb=>exact .step h e hb
  | step _ e hb ih=>exact .step ih e hb
theorem Rch.along {E:Int→Int→Prop} {b:Int→Prop} {u:Nat→Int} (he:∀ n,E (u n) (u (n+1))) (a:Nat):∀ d:Nat,(∀ m,a < m→m≤a+(d+1)→b (u m))→Rch E b (u a) (u (a+(d+1)))
  | 0,h=>.one (he a) (h (a+1) (by exact Nat.le_refl _) (by exact Nat.le_refl _))
  | d+1,h=>.step (Rch.along he a d fun m h1 h2=>h m h1 (by exact Nat.le_succ_of_le ‹_›)) (he (a+(d+1))) (h (a+(d+1)+1) (by omega) (by exact Nat.le_refl _))
theorem again {R:List Int} {u:Nat→Int} (h:∀ n,u n∈R):∃ i k,i < k∧u i = u k:=by
  apply Classical.byContradiction
  intro hn
  have nd:((List.range (R.length+1)).map u).Nodup:=List.pairwise_map.mpr ((List.pairwise_lt_range (n:=R.length+1)).imp fun {a b} hab e=>hn ⟨a,b,hab,e⟩)
  have:=nodup_leI nd (R:=R) fun x hx=>by
    obtain ⟨n,_,rfl⟩:=List.mem_map.mp hx
    exact h n
  rw [List.length_map,List.length_range] at this
  omega
theorem top_of (f:Nat→Int) (i:Nat):∀ d:Nat,∃ t,i≤t∧t≤i+d∧∀ m,i≤m→m≤i+d→f m≤f t
  | 0=>⟨i,by exact Nat.le_refl _,by exact Nat.le_refl _,fun m h1 h2=>by rw [show m = i by omega]; exact Int.le_refl _⟩
  | d+1=>by
    obtain ⟨t,h1,h2,h3⟩:=top_of f i d
    by_cases c:f (i+(d+1))≤f t
    · refine ⟨t,h1,by exact Nat.le_succ_of_le ‹_›,fun m a b=>?_⟩
      by_cases e:m = i+(d+1)
      · rw [e]; exact c
      · exact h3 m a (by omega)
    · refine ⟨i+(d+1),by exact Nat.le_add_right _ _,by exact Nat.le_refl _,fun m a b=>?_⟩
      by_cases e:m = i+(d+1)
      · rw [e]; exact Int.le_refl _
      · have:=h3 m a (by omega)
        omega
theorem Rch.round {rk:Int→Int} {E:Int→Int→Prop} {u:Nat→Int} {i k t:Nat} (hE:∀ n,E (u n) (u (n+1))) (e:u i = u k) (h1:i≤t) (h2:t < k) (h3:∀ m,i≤m→m < k→rk (u m)≤rk (u t)):Rch E (fun s=>rk s≤rk (u t)) (u t) (u t):=by
  have all:∀ m,i≤m→m≤k→rk (u m)≤rk (u t):=fun m a b=>by
    by_cases z:m = k
    · rw [z,← e]; exact h3 i (by exact Nat.le_refl _) (by omega)
    · exact h3 m a (by omega)
  have p1:Rch E (fun s=>rk s≤rk (u t)) (u t) (u k):=by
    have:=Rch.along (b:=fun s=>rk s≤rk (u t)) hE t (k - t - 1) fun m a b=>all m (by omega) (by omega)
    rw [show t+(k - t - 1+1) = k by omega] at this
    exact this
  by_cases z:i = t
  · rw [z] at e
    rw [← e] at p1
    exact p1
  · have p2:Rch E (fun s=>rk s≤rk (u t)) (u i) (u t):=by
      have:=Rch.along (b:=fun s=>rk s≤rk (u t)) hE i (t - i - 1) fun m a b=>all m (by exact Nat.le_of_lt ‹_›) (by omega)
      rw [show i+(t - i - 1+1) = t by omega] at this
      exact this
    rw [← e] at p1
    exact p1.trans p2
theorem comes_back {R:List Int} {rk:Int→Int} {E E':Int→Int→Prop} {u:Nat→Int} (h:∀ n,u n∈R) (he:∀ n,E (u n) (u (n+1))) (he':∀ n,E' (u n) (u (n+1))):∃ t,Rch E (fun s=>rk s≤rk (u t)) (u t) (u t)∧Rch E' (fun s=>rk s≤rk (u t)) (u t) (u t):=by
  obtain ⟨i,k,hik,e⟩:=again h
  obtain ⟨t,h1,h2,h3⟩:=top_of (fun n=>rk (u n)) i (k - i - 1)
  exact ⟨t,Rch.round he e h1 (by omega) fun m a b=>h3 m a (by omega),Rch.round he' e h1 (by omega) fun m a b=>h3 m a (by omega)⟩
section
variable {ways:Int→List Int} {hd rk:Int→Int} {R:List Int}
theorem Sol.one {ha ha':Int→Int} {mo mo':Int→Option Int} (hb:∀ r∈R,hd r = 0∨hd r = 1) (s:Sol ways hd rk R ha mo) (s':Sol ways hd rk R ha' mo') {r:Int} (hr:r∈R):ha r = ha' r:=by
  apply Classical.byContradiction
  intro hne
  have st:∀ x:Int,∃ y:Int,(x∈R∧ha x = ha r∧ha' x = ha' r)→(y∈R∧ha y = ha r∧ha' y = ha' r)∧Stp ways hd R ha mo x y∧Stp ways hd R ha' mo' x y:=fun x=>by
    by_cases c:x∈R∧ha x = ha r∧ha' x = ha' r
    · obtain ⟨hx,e1,e2⟩:=c
      by_cases o:hd x = ha x
      · obtain ⟨m,em,mi,hm⟩:=s.own x hx o
        have o':hd x≠ha' x:=by rw [o,e1,e2]; exact hne
        exact ⟨m,fun _=>⟨⟨(mem_inn.mp mi).2,by rw [hm,e1],by rw [(s'.oth x hx o').2 m mi,e2]⟩,⟨hx,.inl ⟨o,em⟩⟩,⟨hx,.inr ⟨o',mi⟩⟩⟩⟩
      · have o':hd x = ha' x:=by
          have b1:=hb x hx
          have b2:=s.bit x hx
          have b3:=s'.bit x hx
          rw [← e1,← e2] at hne
          omega
        obtain ⟨m,em,mi,hm⟩:=s'.own x hx o'
        exact ⟨m,fun _=>⟨⟨(mem_inn.mp mi).2,by rw [(s.oth x hx o).2 m mi,e1],by rw [hm,e2]⟩,⟨hx,.inr ⟨o,mi⟩⟩,⟨hx,.inl ⟨o',em⟩⟩⟩⟩
    · exact ⟨0,fun z=>absurd z c⟩
  obtain ⟨nx,hnx⟩:=Classical.skolem.mp st
  let u:Nat→Int:=fun n=>Nat.rec r (fun _ x=>nx x) n
  have inv:∀ n,u n∈R∧ha (u n) = ha r∧ha' (u n) = ha' r:=fun n=>by
    induction n with
    | zero=>exact ⟨hr,rfl,rfl⟩
    | succ n ih=>exact (hnx (u n) ih).1
  obtain ⟨t,c1,c2⟩:=comes_back (rk:=rk) (fun n=>(inv n).1) (fun n=>(hnx (u n) (inv n)).2.1) (fun n=>(hnx (u n) (inv n)).2.2)
  obtain ⟨i1,i2,i3⟩:=inv t
  have q1:=s.cyc (u t) i1
  have q2:=s'.cyc (u t) i1
  have b2:=s.bit r hr
  have b3:=s'.bit r hr
  rw [i2] at q1
  rw [i3] at q2
  by_cases p:rk (u t) % 2 = ha r
  · exact q2 (fun z=>hne (p.symm.trans z)) c2
  · exact q1 p c1
end
end Zi

namespace L2
open PySem
inductive Cn where
  | flat (xs:List V)
  | hall (hs:List Mi.Room)
def flat0:V→Bool
  | .int _=>true
  | .bl _=>true
  | .non=>true
  | _=>false
def toT:V→T
  | .int i=>.int i
  | .bl b=>.bl b
  | _=>.non
def Cn.Body (H:Hp) (vs:List V):Cn→Prop
  | .flat xs=>vs = xs∧xs.all flat0 = true
  | .hall hs=>Paired (RoomAt H) hs vs
def Cn.ts:Cn→List T
  | .flat xs=>xs.map toT
  | .hall hs=>hs.map roomT
theorem Cn.Body.tups {H H':Hp} {vs:List V}:∀ {C:Cn},C.Body H vs→(∀ b xs,H b = some (.tup xs)→H' b = some (.tup xs))→C.Body H' vs
  | .flat _,h,_=>h
  | .hall _,h,k=>rooms_tups h k
theorem all_map {α:Type} {f:α→V} {l:List α} (h:∀ a,flat0 (f a) = true):(l.map f).all flat0 = true:=by
  rw [List.all_map]
  exact List.all_eq_true.mpr fun a _=>h a
theorem reps_flat {K:PySem.W.Frag} {H:Hp}:∀ {xs:List V},xs.all flat0 = true→Reps K H (xs.map toT) xs
  | [],_=>trivial
  | x::r,h=>by
    rw [List.all_cons,Bool.and_eq_true] at h
    refine ⟨?_,reps_flat h.2⟩
    have h1:=h.1
    cases x<;>first | rfl | cases h1
theorem deeps_flat:∀ {xs:List V},deeps (xs.map toT) = 0
  | []=>rfl
  | x::r=>by
    rw [List.map_cons,deeps,deeps_flat]
    cases x<;>rfl
theorem Cn.Body.reps {K:PySem.W.Frag} {H:Hp} {vs:List V}:∀ {C:Cn},C.Body H vs→Reps K H C.ts vs
  | .flat _,h=>by
    obtain ⟨rfl,h⟩:=h
    exact reps_flat h
  | .hall _,h=>rooms_rep h
theorem Cn.deeps:∀ C:Cn,L2.deeps C.ts≤20
  | .flat _=>by
    show L2.deeps (List.map _ _)≤20
    rw [deeps_flat]
    decide
  | .hall _=>deeps_rooms _
end L2
namespace Law
open PySem L2
abbrev sAsked:Stmt:=top 57
theorem rm_mem {hs:List Mi.Room} {r:Int} (h:r∈rngI hs.length):rm hs r∈hs:=by
  obtain ⟨a,b⟩:=rngI_mem.mp h
  have hk:r.toNat < hs.length:=by omega
  rw [show rm hs r = hs[r.toNat] by simp [rm,List.getD,List.getElem?_eq_getElem hk]]
  exact List.getElem_mem hk
def mvs (last:Bool) (hs:List Mi.Room):List Int:=hs.map fun r=>if last then r.2.2.getLastD 0 else r.2.2.headD 0
theorem at_first {ws:List Int} (h:ws≠[]):atI (ws.map V.int) 0 = some (V.int (if false = true then ws.getLastD 0 else ws.headD 0)):=by
  cases ws with
  | nil=>exact absurd rfl h
  | cons z t=>exact atI_nat (j:=0) rfl
theorem at_last {ws:List Int} (h:ws≠[]):atI (ws.map V.int) (-1) = some (V.int (if true = true then ws.getLastD 0 else ws.headD 0)):=by
  have hp:=List.length_pos_iff.mpr h
  rw [if_pos rfl,List.getLastD_eq_getLast?,List.getLast?_eq_getElem?]
  unfold atI ixN
  rw [if_neg (by decide),List.length_map,if_pos (by omega)]
  show (ws.map V.int)[_]? = _
  rw [show ((-1:Int)+(ws.length:Nat)).toNat = ws.length - 1 by omega,List.getElem?_map,List.getElem?_eq_getElem (by omega)]
  rfl
theorem mv_in {b:Bool} {ws:List Int} (h:ws≠[]):(if b then ws.getLastD 0 else ws.headD 0)∈ws:=by
  cases ws with
  | nil=>exact absurd rfl h
  | cons z t =>
    cases b with
    | false=>exact List.mem_cons_self
    | true=>
      show (z::t).getLastD 0∈_
      rw [List.getLastD_eq_getLast?,List.getLast?_eq_some_getLast (List.cons_ne_nil z t)]
      exact List.getLast_mem _
theorem mvs_ok {b:Bool}:∀ {hs:List Mi.Room},(∀ r∈hs,r.2.2≠[])→Mi.mvOk hs (mvs b hs) = true
  | [],_=>rfl
  | r::t,h=>by
    show (decide (_∈r.2.2) && Mi.mvOk t (mvs b t)) = true
    rw [mvs_ok fun x hx=>h x (List.mem_cons_of_mem _ hx),decide_eq_true (mv_in (h r List.mem_cons_self))]
    rfl
theorem mvs_in {b:Bool} {hs:List Mi.Room} {n:Int} (h:∀ r∈hs,r.2.2≠[]) (hi:∀ r∈hs,∀ x∈r.2.2,0≤x∧x < n):∀ x∈mvs b hs,0≤x∧x < n:=fun x hx=>by
  obtain ⟨r,hr,rfl⟩:=List.mem_map.mp hx
  exact hi r hr _ (mv_in (h r hr))
theorem fin_len {ms:List Int}:∀ (n:Nat) (tr:List Int) (x:Int),(Mi.fin ms n tr x).1.length≤tr.length+n
  | 0,tr,x=>by simp [Mi.fin]
  | n+1,tr,x=>by
    rw [Mi.fin]
    split
    · show tr.length≤_
      omega
    · have:=fin_len (ms:=ms) n (tr++[x]) (Mi.mv ms x)
      rw [List.length_append,List.length_singleton] at this
      omega
structure Gd (hs:List Mi.Room) (s:Sy) {N:Nat} (W:Wo N):Prop where
  hw:Hw hs 8
  gd:Mi.Good hs
  inn:∀ r∈hs,∀ x∈r.2.2,0≤x∧x < (hs.length:Int)
  ok:s.ok []
  dp:s.depth≤4
  sz:s.size≤20
  n4:N≤6
  ri:W.rises
def Tld (way:Int) (hs:List Mi.Room) (s:Sy) {N:Nat} (W:Wo N) (C:Cn):Prop :=
  (way = 0∧∃ ha mo,SolH hs (rngI hs.length) ha mo∧C = .flat ((rngI hs.length).map fun r=>V.int (ha r))) ∨
  (way = 1∧∃ ha mo,SolH hs (rngI hs.length) ha mo∧C = .flat ((rngI hs.length).map fun r=>mvV (mo r))) ∨
  (way = 2∧∃ q st,Bf.Drawn (wIn hs (rngI hs.length)) (ownB hs 1) (rngI hs.length) [0] q st∧C = .flat ((rngI hs.length).map (fo q st))) ∨
  (way = 3∧∃ tr x,Mi.fin (mvs false hs) hs.length [] 0 = (tr,x)∧C = .flat ((tr.drop (tr.idxOf x)).map V.int)) ∨
  (way = 7∧∃ tr x,Mi.fin (mvs true hs) hs.length [] 0 = (tr,x)∧C = .flat ((tr.take (tr.idxOf x)).map V.int)) ∨
  (way = 4∧C = .hall hs) ∨
  (way = 5∧C = .flat (tr (Se.hold W s (fun _ _=>false)))) ∨
  (way = 6∧C = .hall (Ha.hallTo W (Ha.rows s 0 Ha.e0) s.size N))
theorem Tld.one {way:Int} {hs:List Mi.Room} {s:Sy} {N:Nat} {W:Wo N} {C C':Cn} (hb:∀ r∈rngI hs.length,hdH hs r = 0∨hdH hs r = 1) (n1:way≠1) (h:Tld way hs s W C) (h':Tld way hs s W C'):C = C':=by
  rcases h with ⟨e,ha,mo,S,rfl⟩ | ⟨e,_⟩ | ⟨e,q,st,D,rfl⟩ | ⟨e,t,x,E,rfl⟩ | ⟨e,t,x,E,rfl⟩ | ⟨e,rfl⟩ | ⟨e,rfl⟩ | ⟨e,rfl⟩ <;>
  rcases h' with ⟨e',ha',mo',S',rfl⟩ | ⟨e',_⟩ | ⟨e',q',st',D',rfl⟩ | ⟨e',t',x',E',rfl⟩ | ⟨e',t',x',E',rfl⟩ | ⟨e',rfl⟩ | ⟨e',rfl⟩ | ⟨e',rfl⟩<;>first | omega | rfl | skip
  · exact congrArg Cn.flat (List.map_congr_left fun r hr=>by rw [Zi.Sol.one hb S S' hr])
  · refine congrArg Cn.flat (List.map_congr_left fun r _=>?_)
    obtain ⟨a,b⟩:=D.same D' r
    unfold fo
    by_cases z:r∈q
    · rw [if_pos z,if_pos (a.mp z),b z]
    · rw [if_neg z,if_neg fun y=>z (a.mpr y)]
  · rw [E] at E'
    cases E'
    rfl
  · rw [E] at E'
    cases E'
    rfl
section
seal PA PE PS PSs PT PI PG PGs PIf
variable {P:Program} {w:World} {K:PySem.W.Frag} {mg:Str→Option Value} {base:Heap} {f g:Addr} {fd gd:FuncData}
def spAsked:Sp:=fun vs H Q _=>∃ (way:Int) (hl wl:Addr) (v:V) (hs:List Mi.Room) (s:Sy) (N:Nat) (W:Wo N) (us:List V),vs = [.int way,.ref hl,v,.ref wl]∧0≤way∧way < 8∧HallAt H hl hs∧SyAt H s v∧WorldAt H wl W us∧Gd hs s W ∧
  ∀ r H' xs C,Same H H'→H r = none→H' r = some (.lst xs)→xs.length≤200→C.Body H' xs→Tld way hs s W C→Q (.ref r) H'
theorem scAsked:FnScope ["way","hall","saying","world"] ["way","hall","saying","world"] (defScope sAsked):=⟨rfl,rfl,rfl,by decide +kernel,rfl,by decide +kernel,by decide +kernel⟩
theorem ndRoom1:(["room"]:List Str).Nodup:=by decide +kernel
theorem ok_asked {fV fP fK fS fR fT fH:Addr} {dV dP dK dS dR dT dH:FuncData} (F:Fun K "_law_asked" "_law_asked" sAsked f fd)
    (GV:FnOk P w K mg base CX0 21 fV dV ["hall"] (spSolved 8)) (bV:Binds K dV ["hall"] []) (kV:PySem.W.keepIn K (.ref fV) = true) (mV:mg "solved" = some (.ref fV))
    (GP:FnOk P w K mg base CX0 3 fP dP ["hall","hand","goal"] (spPulled K)) (bP:Binds K dP ["hall","hand","goal"] []) (kP:PySem.W.keepIn K (.ref fP) = true) (mP:mg "pulled" = some (.ref fP))
    (GK:FnOk P w K mg base CX0 2 fK dK ["hall","start","moves"] (spWalk K)) (bK:Binds K dK ["hall","start","moves"] []) (kK:PySem.W.keepIn K (.ref fK) = true) (mK:mg "walk" = some (.ref fK))
    (GS:FnOk P w K mg base CX0 1 fS dS ["hall"] spShown) (bS:Binds K dS ["hall"] []) (kS:PySem.W.keepIn K (.ref fS) = true) (mS:mg "shown" = some (.ref fS))
    (GR:FnOk P w K mg base CX0 4 fR dR ["text"] spRead) (bR:Binds K dR ["text"] []) (kR:PySem.W.keepIn K (.ref fR) = true) (mR:mg "read" = some (.ref fR))
    (GT:FnOk P w K mg base CX0 11 fT dT ["world","saying"] (spTrue 4)) (bT:Binds K dT ["world","saying"] []) (kT:PySem.W.keepIn K (.ref fT) = true) (mT:mg "true_at" = some (.ref fT))
    (GH:FnOk P w K mg base CX0 8 fH dH ["world","saying"] (spHallOf 4)) (bH:Binds K dH ["world","saying"] []) (kH:PySem.W.keepIn K (.ref fH) = true) (mH:mg "hall_of" = some (.ref fH)) :
    FnOk P w K mg base CX0 22 f fd ["way","hall","saying","world"] spAsked:=by
  refine F.ok scAsked (fun vs H Q E h=>?_) (fun cdv A outer s H vs Q E hr h=>?_)
  · obtain ⟨way,hl,wl,v,hs,s,N,W,us,rfl,_⟩:=h
    rfl
  obtain ⟨way,hl,wl,v,hs,sy,N,W,us,rfl,w0,w8,hA,hs',hW,G,q⟩:=h
  have hr1:L2.Room 1 _:=hr.mono (by decide)
  have hr2:L2.Room 2 _:=hr.mono (by decide)
  have hr3:L2.Room 3 _:=hr.mono (by decide)
  have hr4:L2.Room 4 _:=hr.mono (by decide)
  have hr8:L2.Room 8 _:=hr.mono (by decide)
  have hr11:L2.Room 11 _:=hr.mono (by decide)
  refine ⟨_,pss_cons (ps_if (pt_cmpR op_eq (pv 0) pe_int (nomark _)) (pss_one (ps_ret (pe_ix ix_tup (pe_call GV hr rfl mV kV bV .nil pass0 (pa_cons (pv 1) pa_nil)) pe_int (fun _ _=>rfl)))) pss_nil)
    (pss_cons (ps_if (pt_cmpR op_eq (pv 0) pe_int (nomark _)) (pss_one (ps_ret (pe_ix ix_tup (pe_call GV hr rfl mV kV bV .nil pass0 (pa_cons (pv 1) pa_nil)) pe_int (fun _ _=>rfl)))) pss_nil)
    (pss_cons (ps_if (pt_cmpR op_eq (pv 0) pe_int (nomark _)) (pss_one (ps_ret (pe_call GP hr3 rfl mP kP bP .nil pass0 (pa_cons (pv 1) (pa_cons pe_int (pa_cons (pe_lst (pa_cons pe_int pa_nil)) pa_nil)))))) pss_nil)
    (pss_cons (ps_if (pt_cmpR op_eq (pv 0) pe_int (nomark _)) (pss_one (ps_ret (pe_ix ix_tup (pe_call GK hr2 rfl mK kK bK .nil pass0 (pa_cons (pv 1) (pa_cons pe_int (pa_cons (pe_comp (N:=["room"]) (capt:=[none]) rfl (pi_list (pv 1)) rfl (by repeat (first | exact .nil | refine .cons rfl ?_))
          (by repeat (first | exact .nil | refine .skip (by decide) (by decide) ?_ | refine .free ⟨_,rfl⟩ ?_)) (.tgt .nil) (fun _ _ _ _ _=>pg_name (i:=0) ndRoom1 rfl (Or.inl rfl)) (fun _ _ _ _ _=>pif_nil)
          (fun _ _ _ _ _=>pe_ix (ixT K) (pe_ix (ixT K) (pv 0) pe_int (fun _ _=>rfl)) pe_int (fun _ _=>rfl))) pa_nil)))) pe_int (fun _ _=>rfl)))) pss_nil)
    (pss_cons (ps_if (pt_cmpR op_eq (pv 0) pe_int (nomark _)) (pss_one (ps_ret (pe_ix ix_tup (pe_call GK hr2 rfl mK kK bK .nil pass0 (pa_cons (pv 1) (pa_cons pe_int (pa_cons (pe_comp (N:=["room"]) (capt:=[none]) rfl (pi_list (pv 1)) rfl (by repeat (first | exact .nil | refine .cons rfl ?_))
          (by repeat (first | exact .nil | refine .skip (by decide) (by decide) ?_ | refine .free ⟨_,rfl⟩ ?_)) (.tgt .nil) (fun _ _ _ _ _=>pg_name (i:=0) ndRoom1 rfl (Or.inl rfl)) (fun _ _ _ _ _=>pif_nil)
          (fun _ _ _ _ _=>pe_ix (ixT K) (pe_ix (ixT K) (pv 0) pe_int (fun _ _=>rfl)) (pe_un un_neg pe_int) (fun _ _=>rfl))) pa_nil)))) pe_int (fun _ _=>rfl)))) pss_nil)
    (pss_cons (ps_if (pt_cmpR op_eq (pv 0) pe_int (nomark _)) (pss_one (ps_ret (pe_call GR hr4 rfl mR kR bR .nil pass0 (pa_cons (pe_call GS hr1 rfl mS kS bS .nil pass0 (pa_cons (pv 1) pa_nil)) pa_nil)))) pss_nil)
    (pss_cons (ps_if (pt_cmpR op_eq (pv 0) pe_int (nomark _)) (pss_one (ps_ret (pe_call GT hr11 rfl mT kT bT .nil pass0 (pa_cons (pv 3) (pa_cons (pv 2) pa_nil))))) pss_nil)
    (pss_one (ps_ret (pe_call GH hr8 rfl mH kH bH .nil pass0 (pa_cons (pv 3) (pa_cons (pv 2) pa_nil))))))))))),?_⟩
  first | dsimp only [nxK,nxP,nxW] | skip
  have hn:=G.hw.hl.rms.hl
  have lr:=rngI_len hs.length
  refine ⟨_,rfl,rfl,_,rfl,ifeq2 (fun e=>?_) (fun e0=>?_)⟩
  · refine ⟨_,rfl,hl,hs,rfl,hA,G.hw,fun t a b ha mo H' sm _ ha0 _ hF hSol=>⟨t,_,_,_,rfl,rfl,SqT.of hF.1,rfl,?_⟩⟩
    exact q a H' _ (.flat _) sm ha0 hF.2.1 (by rw [List.length_map]; omega) ⟨rfl,all_map fun _=>rfl⟩ (.inl ⟨e,ha,mo,hSol,rfl⟩)
  refine ⟨_,rfl,rfl,_,rfl,ifeq2 (fun e=>?_) (fun e1=>?_)⟩
  · refine ⟨_,rfl,hl,hs,rfl,hA,G.hw,fun t a b ha mo H' sm _ _ hb0 hF hSol=>⟨t,_,_,_,rfl,rfl,SqT.of hF.1,rfl,?_⟩⟩
    exact q b H' _ (.flat _) sm hb0 hF.2.2.1 (by rw [List.length_map]; omega) ⟨rfl,all_map fun r=>by cases mo r<;>rfl⟩ (.inr (.inl ⟨e,ha,mo,hSol,rfl⟩))
  refine ⟨_,rfl,rfl,_,rfl,ifeq2 (fun e=>?_) (fun e2=>?_)⟩
  · refine ⟨_,rfl,(by show 1≤sizeLine; decide),fun gl hgl=>?_⟩
    have s1:=same_new hgl (.lst [.int 0])
    refine ⟨hl,gl,hs,[0],1,rfl,hA.same s1,SqL.of upd_same,G.hw.hl.rms,by decide,fun x hx=>?_,fun d q' st H' sm hd h' hdr=>?_⟩
    · have:=List.length_pos_iff.mpr G.gd.ne
      exact rngI_mem.mpr (by rw [List.mem_singleton.mp hx]; omega)
    exact q d H' _ (.flat _) (s1.trans sm) (s1.free hd) h' (by rw [List.length_map]; omega) ⟨rfl,all_map fun r=>by unfold fo; split<;>rfl⟩ (.inr (.inr (.inl ⟨e,q',st,hdr,rfl⟩)))
  refine ⟨_,rfl,rfl,_,rfl,ifeq2 (fun e=>?_) (fun e3=>?_)⟩
  · obtain ⟨vs,el,pr⟩:=id hA
    have lv:hs.length = vs.length:=Paired.length pr
    refine ⟨_,rfl,_,rfl,hl,rfl,⟨vs,SqL.of el⟩,?_⟩
    refine comp_list (K:=K) (a:=hl) (xs:=vs) (fun D i ys H5=>Same H H5∧H D = none∧H5 D = some (.lst ys)∧ys = ((mvs false hs).take i).map V.int) ?_ ?_ ?_ ?_
    · exact fun D hD=>⟨same_new hD _,hD,upd_same,rfl⟩
    · rintro D i ys H5 hi ⟨sm,hD,h5,ey⟩
      refine ⟨SqL.of (sm _ _ el),h5,fun _=>small1000 ?_⟩
      rw [ey,List.length_map,List.length_take,mvs,List.length_map]
      omega
    · rintro D i x ys H5 hx ⟨sm,hD,h5,ey⟩
      obtain ⟨r,hr',pa,qa,rfl,h1,h2⟩:=pair_back pr hx
      obtain ⟨hi,er⟩:=List.getElem?_eq_some_iff.mp hr'
      have hw0:=G.gd.ws r (List.mem_of_getElem? hr')
      refine ⟨trivial,_,rfl,pa,_,_,_,rfl,rfl,SqT.of (sm _ _ h1),(show atI [V.int r.1,V.int r.2.1,V.ref qa] 2 = some _ from rfl),qa,_,_,_,rfl,rfl,SqT.of (sm _ _ h2),at_first hw0,h5,fun b u e=>?_,hD,upd_same,?_⟩
      · rw [upd_ne (ne_of_none e hD)]
        exact sm _ _ e
      · have hi':i < (mvs false hs).length:=by rw [mvs,List.length_map]; exact hi
        rw [ey,List.take_succ_eq_append_getElem hi',List.map_append]
        simp only [mvs,List.getElem_map,er]
        rfl
    · rintro D ys H5 ⟨sm,hD,h5,ey⟩
      rw [← lv,List.take_of_length_le (by rw [mvs,List.length_map]; exact Nat.le_refl _)] at ey
      subst ey
      refine ⟨hl,D,0,hs,mvs false hs,rfl,hA.same sm,SqL.of h5,by rw [mvs,List.length_map],by omega,mvs_in G.gd.ws G.inn,⟨by decide,by have:=List.length_pos_iff.mpr G.gd.ne; omega⟩,mvs_ok G.gd.ws,fun H' s' t a b tr x hfin hx ha hb ht ea eb=>⟨t,_,_,_,rfl,rfl,SqT.of ht,rfl,?_⟩⟩
      have hl':=fin_len (ms:=mvs false hs) hs.length [] 0
      rw [hfin] at hl'
      exact q b H' _ (.flat _) (sm.trans s') (sm.free hb) eb (by rw [List.length_map]; simp at hl' ⊢; omega) ⟨rfl,all_map fun _=>rfl⟩ (.inr (.inr (.inr (.inl ⟨e,tr,x,hfin,rfl⟩))))
  refine ⟨_,rfl,rfl,_,rfl,ifeq2 (fun e=>?_) (fun e7=>?_)⟩
  · obtain ⟨vs,el,pr⟩:=id hA
    have lv:hs.length = vs.length:=Paired.length pr
    refine ⟨_,rfl,_,rfl,hl,rfl,⟨vs,SqL.of el⟩,?_⟩
    refine comp_list (K:=K) (a:=hl) (xs:=vs) (fun D i ys H5=>Same H H5∧H D = none∧H5 D = some (.lst ys)∧ys = ((mvs true hs).take i).map V.int) ?_ ?_ ?_ ?_
    · exact fun D hD=>⟨same_new hD _,hD,upd_same,rfl⟩
    · rintro D i ys H5 hi ⟨sm,hD,h5,ey⟩
      refine ⟨SqL.of (sm _ _ el),h5,fun _=>small1000 ?_⟩
      rw [ey,List.length_map,List.length_take,mvs,List.length_map]
      omega
    · rintro D i x ys H5 hx ⟨sm,hD,h5,ey⟩
      obtain ⟨r,hr',pa,qa,rfl,h1,h2⟩:=pair_back pr hx
      obtain ⟨hi,er⟩:=List.getElem?_eq_some_iff.mp hr'
      have hw0:=G.gd.ws r (List.mem_of_getElem? hr')
      refine ⟨trivial,_,rfl,pa,_,_,_,rfl,rfl,SqT.of (sm _ _ h1),(show atI [V.int r.1,V.int r.2.1,V.ref qa] 2 = some _ from rfl),_,rfl,qa,_,_,_,rfl,rfl,SqT.of (sm _ _ h2),at_last hw0,h5,fun b u e=>?_,hD,upd_same,?_⟩
      · rw [upd_ne (ne_of_none e hD)]
        exact sm _ _ e
      · have hi':i < (mvs true hs).length:=by rw [mvs,List.length_map]; exact hi
        rw [ey,List.take_succ_eq_append_getElem hi',List.map_append]
        simp only [mvs,List.getElem_map,er]
        rfl
    · rintro D ys H5 ⟨sm,hD,h5,ey⟩
      rw [← lv,List.take_of_length_le (by rw [mvs,List.length_map]; exact Nat.le_refl _)] at ey
      subst ey
      refine ⟨hl,D,0,hs,mvs true hs,rfl,hA.same sm,SqL.of h5,by rw [mvs,List.length_map],by omega,mvs_in G.gd.ws G.inn,⟨by decide,by have:=List.length_pos_iff.mpr G.gd.ne; omega⟩,mvs_ok G.gd.ws,fun H' s' t a b tr x hfin hx ha hb ht ea eb=>⟨t,_,_,_,rfl,rfl,SqT.of ht,rfl,?_⟩⟩
      have hl':=fin_len (ms:=mvs true hs) hs.length [] 0
      rw [hfin] at hl'
      exact q a H' _ (.flat _) (sm.trans s') (sm.free ha) ea (by rw [List.length_map]; simp at hl' ⊢; omega) ⟨rfl,all_map fun _=>rfl⟩ (.inr (.inr (.inr (.inr (.inl ⟨e,tr,x,hfin,rfl⟩)))))
  refine ⟨_,rfl,rfl,_,rfl,ifeq2 (fun e=>?_) (fun e4=>?_)⟩
  · refine ⟨_,rfl,hl,hs,rfl,hA,G.gd.len,G.gd.sm,fun H1 s1=>⟨hs,rfl,G.gd.ne,G.gd.len,G.gd.sm,G.gd.ws,G.gd.ok,fun l H2 s2 hl2 hB=>?_⟩⟩
    obtain ⟨xs,ex,px⟩:=hB
    have:=Paired.length px
    exact q l H2 xs (.hall hs) (s1.trans s2) (s1.free hl2) ex (by omega) px (.inr (.inr (.inr (.inr (.inr (.inl ⟨e,rfl⟩))))))
  refine ⟨_,rfl,rfl,_,rfl,ifeq2 (fun e=>?_) (fun e5=>?_)⟩
  · refine ⟨_,rfl,_,rfl,N,wl,W,us,v,sy,(fun _ _=>false),rfl,hW,hs',G.ok,G.dp,by have:=G.n4; omega,G.ri,fun r H' sm hr' h'=>?_⟩
    exact q r H' _ (.flat _) sm hr' h' (by rw [tr_len]; have:=G.n4; omega) ⟨rfl,all_map fun _=>rfl⟩ (.inr (.inr (.inr (.inr (.inr (.inr (.inl ⟨e,rfl⟩)))))))
  have lz:N*sy.size≤120:=Nat.le_trans (Nat.mul_le_mul G.n4 G.sz) (by decide)
  refine ⟨_,rfl,_,rfl,N,wl,W,us,v,sy,rfl,hW,hs',G.ok,G.dp,by have:=G.sz; omega,by have:=G.n4; omega,by omega,G.ri,fun r H' sm hr' hB=>?_⟩
  obtain ⟨xs,ex,px⟩:=hB
  have:=Paired.length px
  exact q r H' xs (.hall _) sm hr' ex (by rw [← this]; have e:=Ha.hall_len (W:=W) (ps:=Ha.rows sy 0 Ha.e0) (Nat.le_refl N); rw [Ha.rows_len] at e; omega) px (.inr (.inr (.inr (.inr (.inr (.inr (.inr ⟨by omega,rfl⟩)))))))
end
end Law

namespace Law
open PySem L2
theorem HallAt.keepX {H H':Hp} {l p:Addr} {hs:List Mi.Room} {ys:List V} (h:HallAt H l hs) (hp:H p = some (.lst ys)) (ne:l≠p) (k:SameX p H H'):HallAt H' l hs:=by
  obtain ⟨vs,el,pr⟩:=h
  exact ⟨vs,k _ _ el ne,rooms_tups pr fun b xs e=>k _ _ e fun z=>by rw [z,hp] at e; cases e⟩
theorem WorldAt.keepX {H H':Hp} {l p:Addr} {N:Nat} {W:Wo N} {us ys:List V} (h:WorldAt H l W us) (hp:H p = some (.lst ys)) (ne:l≠p) (k:SameX p H H'):WorldAt H' l W us:=h.imp (k _ _ h.lst ne) fun b xs e=>k _ _ e fun z=>by rw [z,hp] at e; cases e
theorem hall_gd {ns:List Int} {k:Nat} {s:Sy} {N:Nat} {W:Wo N} (ok:s.ok []) (dp:s.depth≤4) (sz:s.size≤20) (n4:N≤6) (ri:W.rises):Gd (Mi.hall ns k 6 8) s W:=by
  have mp:=Mi.many_pos (ns:=ns) (k:=k) (most:=6) (by decide)
  have hl:(Mi.hall ns k 6 8).length = (Mi.many ns k 6).toNat:=Mi.hall_len
  have hr:=Mi.hall_room (ns:=ns) (k:=k) (most:=6) (ranks:=8) (by decide) (by decide)
  have ws:∀ r∈rngI (Mi.hall ns k 6 8).length,(rm (Mi.hall ns k 6 8) r).2.2≠[]∧∀ x∈(rm (Mi.hall ns k 6 8) r).2.2,x∈rngI (Mi.hall ns k 6 8).length:=fun r h=>by
    obtain ⟨_,b,c⟩:=hr _ (rm_mem h)
    exact ⟨b,fun x hx=>rngI_mem.mpr (c x hx)⟩
  have rr:∀ r∈rngI (Mi.hall ns k 6 8).length,∃ c:Int,hdH (Mi.hall ns k 6 8) r = c % 2∧rkH (Mi.hall ns k 6 8) r = c / 2 % 8:=fun r hr=>by
    obtain ⟨j,_,e⟩:=List.mem_map.mp (rm_mem hr)
    have e2:Mi.room (Mi.cell ns (k+1+j)+77777*(j:Int)) (Mi.many ns k 6) 8 = rm (Mi.hall ns k 6 8) r:=e
    rw [hdH,rkH,← e2]
    exact ⟨_,rfl,rfl⟩
  refine ⟨⟨⟨⟨rngI_nodup _,by rw [rngI_len]; omega,by omega,fun r h=>rngI_mem.mp h,fun r h=>?_⟩,fun r h=>?_,fun r h=>?_,.inl (by omega)⟩,fun r h=>?_,fun r h=>?_⟩,Mi.hall_good (by decide) (by decide),fun r h=>(hr r h).2.2,ok,dp,sz,n4,ri⟩
  · have hm:=rm_mem h
    refine ⟨?_,by have:=(hr _ hm).1; omega⟩
    obtain ⟨j,_,e⟩:=List.mem_map.mp hm
    rw [← e]
    exact (Mi.ways_rise _ _).imp fun h=>by omega
  · obtain ⟨c,e,_⟩:=rr r h
    rw [e]
    omega
  · obtain ⟨c,_,e⟩:=rr r h
    rw [e]
    omega
  · obtain ⟨a,b⟩:=ws r h
    obtain ⟨x,hx⟩:=List.exists_mem_of_ne_nil _ a
    exact List.ne_nil_of_mem (Zi.mem_inn.mpr ⟨hx,b x hx⟩)
  · obtain ⟨c,_,e⟩:=rr r h
    rw [e]
    omega
theorem mv_non {x:Option Int}:decide (mvV x = .non) = x.isNone:=by
  cases x with
  | none=>exact decide_eq_true rfl
  | some m=>exact decide_eq_false (by intro e; cases e)
theorem rng_at {n:Nat} {f:Int→V} {r:Int} (h:r∈rngI n):atI ((rngI n).map f) r = some (f r):=by
  obtain ⟨h0,h1⟩:=rngI_mem.mp h
  have:=rngI_get h0 h1
  rw [show r = ((r.toNat:Nat):Int) by omega]
  refine atI_nat ?_
  rw [List.getElem?_map,this]
  rw [show ((r.toNat:Nat):Int) = r by omega]
  rfl
section
seal PA PE PS PSs PT PI PG PGs PIf
variable {P:Program} {w:World} {K:PySem.W.Frag} {mg:Str→Option Value} {base:Heap} {f g:Addr} {fd gd:FuncData}
def midT (a:Addr):St→Hp→Prop:=fun σ H=>∃ (p hl wl r kl:Addr) (v:V) (way:Int) (hs:List Mi.Room) (s:Sy) (N:Nat) (W:Wo N) (us xs:List V) (C:Cn),σ = [some (.ref a),some (.ref p),some (.ref hl),some (.ref wl),some v,some (.int way),some (.ref r),some (.ref kl),none] ∧
  HallAt H hl hs∧SyAt H s v∧WorldAt H wl W us∧Gd hs s W∧0≤way∧way < 8∧Tld way hs s W C∧H kl = some (.lst xs)∧C.Body H xs
def spLaw (K:PySem.W.Frag):Sp:=fun vs H Q _=>∃ (a:Addr) (ns:List Int),vs = [.ref a]∧Scr K H a ns∧ns.length≤63∧∀ H',Q (.bl true) H'
theorem scLaw:FnScope ["script","spot","hall","world","saying","way","found","kept","again"] ["script"] (defScope sLaw):=⟨rfl,rfl,rfl,by decide +kernel,rfl,by decide +kernel,by decide +kernel⟩
theorem ndAAH:(["at","again","hall"]:List Str).Nodup:=by decide +kernel
theorem ok_law {fC fH fW fS fA:Addr} {dC dH dW dS dA:FuncData} (F:Fun K "law" "law" sLaw f fd)
    (GC:FnOk P w K mg base CX0 1 fC dC ["script","k"] (spCell K)) (bC:Binds K dC ["script","k"] []) (kC:PySem.W.keepIn K (.ref fC) = true) (mC:mg "_law_cell_at" = some (.ref fC))
    (GH:FnOk P w K mg base CX0 3 fH dH ["script","spot","most","ranks"] (spHall K)) (bH:Binds K dH ["script","spot","most","ranks"] []) (kH:PySem.W.keepIn K (.ref fH) = true) (mH:mg "_law_hall" = some (.ref fH))
    (GW:FnOk P w K mg base CX0 3 fW dW ["script","spot","most"] (spWorld K)) (bW:Binds K dW ["script","spot","most"] []) (kW:PySem.W.keepIn K (.ref fW) = true) (mW:mg "_law_world" = some (.ref fW))
    (GS:FnOk P w K mg base CX0 7 fS dS ["script","spot","deep","bound"] (spSay K 4)) (bS:Binds K dS ["script","spot","deep","bound"] []) (kS:PySem.W.keepIn K (.ref fS) = true) (mS:mg "_law_saying" = some (.ref fS))
    (GA:FnOk P w K mg base CX0 22 fA dA ["way","hall","saying","world"] spAsked) (bA:Binds K dA ["way","hall","saying","world"] []) (kA:PySem.W.keepIn K (.ref fA) = true) (mA:mg "_law_asked" = some (.ref fA))
    (ml:mg "len" = none) (mr:mg "range" = none) (mli:mg "list" = none) (mi:mg "isinstance" = none) (mal:mg "all" = none):FnOk P w K mg base CX0 23 f fd ["script"] (spLaw K):=by
  refine F.ok scLaw (fun vs H Q E h=>?_) (fun cdv A outer s H vs Q E hr h=>?_)
  · obtain ⟨a,ns,rfl,_⟩:=h
    rfl
  obtain ⟨a,ns,rfl,hS,_,q⟩:=h
  have hr1:L2.Room 1 _:=hr.mono (by decide)
  have hr3:L2.Room 3 _:=hr.mono (by decide)
  have hr7:L2.Room 7 _:=hr.mono (by decide)
  have hu:_+30 < cLine:=Nat.lt_of_le_of_lt (Nat.add_le_add_left (by decide:30≤64) _) hr.units
  refine ⟨_,pss_cons (ps_set (i:=1) scLaw.nd rfl (Or.inl rfl) (pe_lst (pa_cons pe_int (pa_cons pe_int pa_nil))))
    (pss_cons (ps_set (i:=2) scLaw.nd rfl (Or.inr rfl) (pe_call GH hr3 rfl mH kH bH .nil pass0 (pa_cons (pv 0) (pa_cons (pv 1) (pa_cons pe_int (pa_cons pe_int pa_nil))))))
    (pss_cons (ps_set (i:=3) scLaw.nd rfl (Or.inl rfl) (pe_call GW hr3 rfl mW kW bW .nil pass0 (pa_cons (pv 0) (pa_cons (pv 1) (pa_cons pe_int pa_nil)))))
    (pss_cons (ps_set (i:=4) scLaw.nd rfl (Or.inl rfl) (pe_call GS hr7 rfl mS kS bS .nil pass0 (pa_cons (pv 0) (pa_cons (pv 1) (pa_cons pe_int (pa_cons (pe_lst pa_nil) pa_nil))))))
    (pss_cons (ps_set (i:=5) scLaw.nd rfl (Or.inl rfl) (pe_op op_mod (pe_call GC hr1 rfl mC kC bC .nil pass0 (pa_cons (pv 0) (pa_cons pe_int pa_nil))) pe_int))
    (pss_cons (ps_set (i:=6) scLaw.nd rfl (Or.inl rfl) (pe_call GA hr rfl mA kA bA .nil pass0 (pa_cons (pv 5) (pa_cons (pv 2) (pa_cons (pv 4) (pa_cons (pv 3) pa_nil))))))
    (pss_cons (ps_if (pt_not (pt_val (pe_callB call_isi rfl mi PyProof.Rows.boot_isinstance (pa_cons (pv 6) (pa_cons (pe_bltn (v:=.ty "list") rfl mli (by decide +kernel:bootBuiltins "list" = some (.type "list")) rfl) pa_nil))))) (pss_one (ps_ret pe_bl)) pss_nil)
    (pss_cons (ps_set (i:=7) scLaw.nd rfl (Or.inl rfl) (pe_callTy call_list_of rfl mli PyProof.Rows.boot_list (pa_cons (pv 6) pa_nil)))
    (pss_cut (midT a) (ps_if (pt_cmpR op_eq (pe_op op_mod (pe_call GC hr1 rfl mC kC bC .nil pass0 (pa_cons (pv 0) (pa_cons pe_int pa_nil))) pe_int) pe_int (nomark _))
      (pss_one (ps_expr (pe_bm PySem.F.plainAttrs_list PySem.F.slot_list_append PySem.F.type_list_append mt_append (pv 6) (pa_cons pe_str pa_nil))))
      (pss_one (ps_expr (pe_bm0 PySem.F.plainAttrs_list PySem.F.slot_list_clear PySem.F.type_list_clear mt_clear (pv 6)))))
    (pss_cons (ps_set (i:=8) scLaw.nd rfl (Or.inr rfl) (pe_call GA hr rfl mA kA bA .nil pass0 (pa_cons (pv 5) (pa_cons (pv 2) (pa_cons (pv 4) (pa_cons (pv 3) pa_nil))))))
    (pss_cons (ps_if (pt_cmpR op_eq (pv 5) pe_int (nomark _))
      (pss_cons (ps_if (PW.pt (pw_or (pt_not (pt_val (pe_callB call_isi rfl mi PyProof.Rows.boot_isinstance (pa_cons (pv 8) (pa_cons (pe_bltn (v:=.ty "list") rfl mli (by decide +kernel:bootBuiltins "list" = some (.type "list")) rfl) pa_nil)))))
          (pw_or1 (pt_cmpR op_ne (pe_callB call_len_seq rfl ml PySem.boot_len (pa_cons (pv 8) pa_nil)) (pe_callB call_len_seq rfl ml PySem.boot_len (pa_cons (pv 7) pa_nil)) (nomark _))))) (pss_one (ps_ret pe_bl)) pss_nil)
      (pss_one (ps_ret (pe_callB (call_allB rfl) rfl mal PyProof.Rows.boot_all (pa_cons (pe_comp (N:=["at","again","hall"]) (capt:=[none,some 8,some 2]) rfl (pi_range1 rfl mr (pa_cons (pe_callB call_len_seq rfl ml PySem.boot_len (pa_cons (pv 2) pa_nil)) pa_nil)) rfl (by repeat (first | exact .nil | refine .cons rfl ?_))
          (by repeat (first | exact .nil | refine .skip (by decide) (by decide) ?_ | refine .free ⟨_,rfl⟩ ?_)) (.tgt (.var rfl (.inl rfl) ⟨_,rfl⟩ (.inl rfl) (.var rfl (.inl rfl) ⟨_,rfl⟩ (.inl rfl) .nil)))
          (fun _ _ _ _ _=>pg_name (i:=0) ndAAH rfl (Or.inl rfl)) (fun _ _ _ _ _=>pif_nil)
          (fun _ _ _ _ _=>pe_or (pe_cmpR op_isN (pe_ix (ixL K) (pv 1) (pv 0) (fun _ _=>rfl)) pe_non (nomark _)) (pe_one (pe_cmpR (inK K) (pe_ix (ixL K) (pv 1) (pv 0) (fun _ _=>rfl)) (pe_ix (ixT K) (pe_ix (ixL K) (pv 2) (pv 0) (fun _ _=>rfl)) pe_int (fun _ _=>rfl)) rfl)))) pa_nil))))) pss_nil)
    (pss_one (ps_ret (pe_cmpR (op_eqL hu) (pv 8) (pv 7) (nomark _)))))))))))))),?_⟩
  first | dsimp only [nxK,nxP,nxW] | skip
  refine seqK fun kk1 qq1=>?_
  refine ⟨(by show 2≤sizeLine; decide),fun p hp=>?_⟩
  refine qq1 _ _ ?_
  have s1:=same_new hp (.lst [.int 2,.int 9])
  have p1:(upd H p (.lst [V.int 2,V.int 9])) p = some (.lst [.int ((2:Nat):Int),.int ((9:Nat):Int)]):=upd_same
  generalize upd H p (.lst [V.int 2,V.int 9]) = H1 at s1 p1
  have hS1:=hS.same s1
  refine seqK fun kk2 qq2=>?_
  refine ⟨_,rfl,_,rfl,a,p,ns,2,_,6,8,rfl,hS1,p1,by decide,by decide,by decide,fun hl H2 x2 hl2 hA p2=>?_⟩
  refine qq2 _ _ ?_
  have neh:hl≠p:=fun z=>by rw [z,p1] at hl2; cases hl2
  have hS2:=hS1.keep p1 x2
  refine seqK fun kk3 qq3=>?_
  refine ⟨_,rfl,_,rfl,a,p,ns,_,4,_,rfl,hS2,p2,by decide,by decide,fun wl H3 k3 N W us x3 hl3 p3 hW N0 N4 hri=>?_⟩
  refine qq3 _ _ ?_
  have new:wl≠p:=fun z=>by rw [z,p2] at hl3; cases hl3
  have hA3:=HallAt.keepX hA p2 neh x3
  have hS3:=hS2.keep p2 x3
  refine seqK fun kk4 qq4=>?_
  refine ⟨_,rfl,_,rfl,(by decide),fun b hb=>?_⟩
  have k4:=same_new hb (.lst [])
  refine ⟨a,p,b,ns,k3,9,4,[],rfl,hS3.same k4,k4 _ _ p3,upd_same,by decide,by decide,by decide,fun v H4 sy k' m' x4 p4 hsy hde hsi hok=>?_⟩
  refine qq4 _ _ ?_
  have hS4:=(hS3.same k4).keep (k4 _ _ p3) x4
  have hW4:=WorldAt.keepX (hW.same k4) (k4 _ _ p3) new x4
  have hA4:=HallAt.keepX (hA3.same k4) (k4 _ _ p3) neh x4
  refine seqK fun kk5 qq5=>?_
  refine ⟨_,rfl,a,ns,0,rfl,hS4,_,_,rfl,rfl,(by show (0:Int) < 8; decide),?_⟩
  refine qq5 _ _ ?_
  have G:Gd (Mi.hall ns 2 6 8) sy W:=hall_gd hok hde (by omega) (by omega) hri
  have w0:=Int.emod_nonneg (Mi.cell ns 0) (show (8:Int)≠0 by decide)
  have w8:=Int.emod_lt_of_pos (Mi.cell ns 0) (show (0:Int) < 8 by decide)
  generalize Mi.hall ns 2 6 8 = hs at hA4 G
  clear hA hA3 hW hS1 hS2 hS3 x2 x3 x4 p1 p2 p3 p4 hl2 hl3
  refine seqK fun kk6 qq6=>?_
  refine ⟨_,rfl,_,rfl,_,rfl,_,rfl,Mi.cell ns 0 % 8,hl,wl,v,hs,sy,N,W,us,rfl,w0,w8,hA4,hsy,hW4,G,fun r H5 xs C s5 hr0 e5 lx hC ht=>?_⟩
  refine qq6 _ _ ?_
  refine seqK fun kk7 qq7=>?_
  refine ⟨_,rfl,_,_,_,true,rfl,.lst e5,kit_same,_,rfl,iteF ?_⟩
  refine qq7 _ _ ?_
  refine seqK fun kk8 qq8=>?_
  refine ⟨_,rfl,r,xs,rfl,.inl (SqL.of e5),fun kl hkl=>?_⟩
  refine qq8 _ _ ?_
  have s6:=same_new hkl (.lst xs)
  have ek:(upd H5 kl (.lst xs)) kl = some (.lst xs):=upd_same
  have nk:kl≠r:=fun z=>by rw [z,e5] at hkl; cases hkl
  generalize upd H5 kl (.lst xs) = H6 at s6 ek
  have s56:=s5.trans s6
  have hS6:=hS4.same s56
  have done:∀ o,midT a [some (.ref a),some (.ref p),some (.ref hl),some (.ref wl),some v,some (.int (Mi.cell ns 0 % 8)),some (.ref r),some (.ref kl),none] (upd H6 r o):=fun o=>by
    have sm:Same H4 (upd H6 r o):=fun b u e=>by rw [upd_ne (ne_of_none e hr0)]; exact s56 b u e
    exact ⟨p,hl,wl,r,kl,v,_,hs,sy,N,W,us,xs,C,rfl,hA4.same sm,hsy.same sm,hW4.same sm,G,w0,w8,ht,by rw [upd_ne nk]; exact ek,(hC.tups fun b ys e=>s6 _ _ e).tups fun b ys e=>by rw [upd_ne (ne_of e (s6 _ _ e5) (by intro z; cases z))]; exact e⟩
  refine ⟨⟨_,rfl,a,ns,1,rfl,hS6,_,_,rfl,rfl,(by show (0:Int) < 2; decide),rfl,_,rfl,ifeq2 (fun _=>?_) (fun _=>?_)⟩,?_⟩
  · exact ⟨_,rfl,.inl ⟨rfl,_,SqL.of (s6 _ _ e5)⟩,r,_,_,rfl,rfl,s6 _ _ e5,small1000 (by omega),done _⟩
  · exact ⟨_,rfl,.inl ⟨rfl,_,SqL.of (s6 _ _ e5)⟩,r,_,rfl,rfl,s6 _ _ e5,done _⟩
  clear done hS6 hS4 hA4 hsy hW4 G w0 w8 ht hC ek e5 s5 s6 s56 hr0 hkl lx
  rintro _ H7 ⟨p,hl,wl,r,kl,v,way,hs,sy,N,W,us,xs,C,rfl,hA,hsy,hW,G,w0,w8,ht,ek,hC⟩
  refine seqK fun kk9 qq9=>?_
  refine ⟨_,rfl,_,rfl,_,rfl,_,rfl,way,hl,wl,v,hs,sy,N,W,us,rfl,w0,w8,hA,hsy,hW,G,fun r2 H8 ys C2 s8 _ e8 ly hC2 ht2=>?_⟩
  refine qq9 _ _ ?_
  refine seqK fun kk10 qq10=>?_
  refine ⟨_,rfl,rfl,_,rfl,ifeq2 (fun e=>?_) (fun ne=>?_)⟩
  · rcases ht with ⟨e',_⟩ | ⟨_,ha,mo,S,rfl⟩ | ⟨e',_⟩ | ⟨e',_⟩ | ⟨e',_⟩ | ⟨e',_⟩ | ⟨e',_⟩ | ⟨e',_⟩<;>first | omega | skip
    rcases ht2 with ⟨e',_⟩ | ⟨_,ha2,mo2,S2,rfl⟩ | ⟨e',_⟩ | ⟨e',_⟩ | ⟨e',_⟩ | ⟨e',_⟩ | ⟨e',_⟩ | ⟨e',_⟩<;>first | omega | skip
    obtain ⟨rfl,_⟩:=hC
    obtain ⟨rfl,_⟩:=hC2
    have hn:=G.hw.hl.rms.hl
    have hA8:=hA.same s8
    obtain ⟨vs,el,pr⟩:=id hA8
    have lv:hs.length = vs.length:=Paired.length pr
    refine ⟨_,rfl,_,_,_,true,rfl,.lst e8,kit_same,_,rfl,iteF ?_⟩
    refine ⟨_,rfl,r2,_,rfl,.inl (SqL.of e8),_,rfl,kl,_,rfl,.inl (SqL.of (s8 _ _ ek)),rfl,_,rfl,iteNS (by rw [List.length_map,List.length_map]) ?_⟩
    refine ⟨_,rfl,hl,vs,rfl,.inl (SqL.of el),?_⟩
    rw [← lv]
    refine ⟨_,rfl,by omega,by omega,?_⟩
    refine comp_range (fun D i zs H9=>Same H8 H9∧H8 D = none∧H9 D = some (.lst zs)∧zs = (List.replicate i true).map V.bl) ?_ ?_ ?_ ?_
    · exact fun D hD=>⟨same_new hD _,hD,upd_same,rfl⟩
    · rintro D i zs H9 hi ⟨sm,hD,h9,ez⟩
      refine ⟨h9,fun _=>small1000 ?_⟩
      rw [ez,List.length_map,List.length_replicate]
      omega
    · rintro D i zs H9 hi ⟨sm,hD,h9,ez⟩
      have e0:(0:Int)+(i:Int) = (i:Int):=by omega
      have hiR:(i:Int)∈rngI hs.length:=rngI_mem.mpr ⟨by omega,by omega⟩
      rw [e0]
      obtain ⟨ws,p',q',el9,hat,hp',hq'⟩:=rm_at (hA8.same sm) (rngI_mem.mp hiR).1 (rngI_mem.mp hiR).2
      have e9:=sm _ _ e8
      have fin:H9 D = some (.lst zs)∧Same H8 (upd H9 D (.lst (zs++[V.bl true])))∧H8 D = none∧(upd H9 D (.lst (zs++[V.bl true]))) D = some (.lst (zs++[V.bl true]))∧zs++[V.bl true] = (List.replicate (i+1) true).map V.bl :=
        ⟨h9,fun b u e=>by rw [upd_ne (ne_of_none e hD)]; exact sm _ _ e,hD,upd_same,by rw [ez,List.replicate_succ',List.map_append]; rfl⟩
      refine ⟨⟨rfl,rfl,trivial⟩,?_⟩
      refine ⟨_,rfl,_,rfl,r2,_,_,_,rfl,rfl,SqL.of e9,rng_at hiR,rfl,_,rfl,?_⟩
      rw [mv_non]
      cases em:mo2 (i:Int) with
      | none=>exact iteT fin
      | some m =>
        refine iteF ?_
        have hm:m∈wyH hs (i:Int):=by
          by_cases o:hdH hs (i:Int) = ha2 (i:Int)
          · obtain ⟨m',em',mi',_⟩:=S2.own _ hiR o
            rw [em] at em'
            cases em'
            exact (Zi.mem_inn.mp mi').1
          · rw [(S2.oth _ hiR o).1] at em
            cases em
        refine ⟨_,rfl,_,rfl,r2,_,_,_,rfl,rfl,SqL.of e9,rng_at hiR,_,rfl,_,rfl,hl,ws,_,_,rfl,rfl,SqL.of el9,hat,p',_,_,_,rfl,rfl,SqT.of hp',(show atI [V.int (rm hs (i:Int)).1,V.int (rm hs (i:Int)).2.1,V.ref q'] 2 = some _ from rfl),?_⟩
        rw [em]
        refine ⟨q',_,rfl,.inr (SqT.of hq'),rfl,flat_ints _,?_⟩
        rw [show mvV (some m) = V.int m from rfl,inV_int,decide_eq_true hm]
        exact fin
    · rintro D zs H9 ⟨sm,hD,h9,ez⟩
      subst ez
      refine ⟨D,_,rfl,SqL.of h9,?_⟩
      rw [show (List.replicate _ true).all id = true by simp]
      exact q H9
  refine qq10 _ _ ?_
  have eC:C2 = C:=Tld.one G.hw.hl.bit ne ht2 ht
  subst eC
  refine ⟨_,rfl,_,rfl,_,_,⟨r2,ys,rfl,SqL.of e8,hC2.reps⟩,⟨kl,xs,rfl,SqL.of (s8 _ _ ek),(hC.tups fun b zs z=>s8 _ _ z).reps⟩,Cn.deeps _,?_⟩
  rw [eqTs_refl]
  exact q H8
end
end Law

namespace L2
open PySem PySem.Spec PyProof.Rows
namespace Tx
end Tx
section
variable {X:Cx}
end
namespace Tx
end Tx
end L2

namespace Ev
open PySem
open Sem (wp)
section
variable {prog:Program} {w:World} {A:Around} {E:Value→Shared→Prop} {s:Shared}
end
section
variable {prog:Program} {w:World} {A:Around} {E:Value→Shared→Prop} {s:Shared}
end
end Ev

namespace L2
open PySem PySem.Spec PyProof.Rows
end L2

namespace L2
open PySem
namespace Sy
open Tx
def wf:Sy→Prop
  | y0 _=>True | mk _ x=>x∈marks | nm x=>x∈names | st _ s=>s.wf | pr _ s t=>s.wf∧t.wf | bn _ x s=>x∈names∧s.wf
def tl:Sy→List Nat
  | y0 b=>[if b = true then 49 else 48]
  | mk b x=>if b = true then L x else 33::L x
  | nm x=>L x
  | st b s=>(if b = true then [60,62] else [91,93])++tl s
  | pr b s t=>40::(tl s++(if b = true then 38 else 124)::(tl t++[41]))
  | bn b x s=>(if b = true then 45 else 43)::(L x++46::tl s)
def tx (s:Sy):Str:=⟨(tl s).toArray⟩
def sg:Sy→List Str
  | y0 b=>[if b = true then "1" else "0"]
  | mk b _=>[if b = true then "" else "!",""]
  | nm _=>["",""]
  | st b _=>[if b = true then "<>" else "[]",""]
  | pr b _ _=>["(",if b = true then "&" else "|",")"]
  | bn b _ _=>[if b = true then "-" else "+",".",""]
def aL:Sarg→List Nat
  | .tx x=>L x
  | .sy u=>tl u
def acc (s:Sy) (i:Nat):List Nat:=L (s.sg.headD "")++((s.args.zip s.sg.tail).take i).flatMap fun p=>aL p.1++L p.2
end Sy
end L2

namespace L2
open PySem PySem.Spec PyProof.Rows
theorem ct_at {K:PySem.W.Frag} {a:Addr} {o:Obj} {its:Array Value} {n:Nat} {B:List Str} (lk:K.lookup a = some o) (hc:o.cls = .type "tuple") (hd:o.data = .seq its n) (hs:its.size≤1000) (hv:strsOf its.toList = some B):∀ H,SqT K H a (B.map V.str) :=
  fun _=>.inr ⟨o,its,n,lk,hc,hd,Nat.le_of_lt (small1000 hs),strsOf_vals hv⟩
section
variable {X:Cx}
end
end L2

namespace L2
open PySem PySem.Spec PyProof.Rows
def tupIs (K:PySem.W.Frag) (a:Addr) (B:List Str):Bool:=match K.lookup a with
  | some o=>match o.cls,o.data with
    | .type n,.seq its _=>n == "tuple" && decide (its.size≤1000) && (strsOf its.toList == some B)
    | _,_=>false
  | none=>false
theorem tupIs_at {K:PySem.W.Frag} {a:Addr} {B:List Str} (h:tupIs K a B = true):∀ H,SqT K H a (B.map V.str):=by
  unfold tupIs at h
  split at h
  · next o lk =>
    split at h
    · next n its k hc hd =>
      simp only [Bool.and_eq_true,beq_iff_eq,decide_eq_true_eq] at h
      exact ct_at lk (by rw [hc,h.1.1]) hd h.1.2 h.2
    · cases h
  · cases h
theorem int_mk {K:PySem.W.Frag} {h:Heap} {mg:Str→Option Value} {x:Str} {i:Int} {tk:Tok} (X:K.In h) (G:h.Ns mainGlobals mg) (n:PySem.W.nsIn K mainGlobals x = some (some (.int i tk))):∃ tk,mg x = some (.int i tk) :=
  ⟨tk,PySem.W.mg_of X G n⟩
end L2

noncomputable section
namespace Hd
open PySem PySem.W PyProof.Rows
def o11:Obj:={ cls:=.type "tuple",data:=.seq #[] }
def o12:Obj:={ cls:=.none,data:=.fields #[] }
def o13:Obj:={ cls:=.type "code",data:=.fields #[.str "<module>" 182,.str "<module>" 183,.str "/claim/cut.py" 184,.int 1 0,.int 0 0,.int 0 0,.int 0 0,.int 0 0,.ref 11,.bool false,.int 181 0,.ref 12,.none,.none,.none,.none,.int 185 0,.int 1 0,.str "/claim/cut.py" 186] }
def o14:Obj:={ cls:=.type "frame",slots:=#[some (.ref 13),some (.ref 3),some (.ref 3),none,some (.str "__main__" 164),none,some (.ref 0)] }
def t0 (P:Params):BT:=.node (boot_o_0 P) (.node (boot_o_1 P) (.node (boot_o_3 P) (.node (boot_o_7 P) .nil .nil) (.node o11 .nil .nil)) (.node (boot_o_5 P) (.node (boot_o_9 P) .nil .nil) (.node o13 .nil .nil)))
  (.node (boot_o_2 P) (.node (boot_o_4 P) (.node (boot_o_8 P) .nil .nil) (.node o12 .nil .nil)) (.node (boot_o_6 P) (.node (boot_o_10 P) .nil .nil) (.node o14 .nil .nil)))
abbrev ann:Option Value:=some (.ref 6)
abbrev z:Pos:=⟨0,0,0,0⟩
abbrev B:List Frame:=[topFrame z]
def env (p:Program):Env:={ scope:=p.main.scope,locals:=mainNs,globals:=mainNs,cells:=[],code:=.ref 13,frame:=some 14 }
abbrev cE (p:Program):Code:=.body (behindTheImports p) (env p)
abbrev S0 (w:World) (os:OsState):Shared:=⟨boot_heap w.params,Array.mk [],boot_drawn,boot_toks,os⟩
abbrev S1 (w:World) (os:OsState):SharedT:=⟨t0 w.params,15,{},Array.mk [],{},187,os⟩
def run (p:Program) (n:Nat) (w:World) (os:OsState):Option (Flow×SharedT×Code×Pos):=segRunT treeTable p w 11 ann 1 n (S1 w os) (piecesOf (behindTheImports p) (env p) (cE p) z B)
def lk (p q:Program) (loose:List Str) (Xt:Shared→Bool) (h₀:Heap) (s:Shared) :=
  ((staticsOk (importedModules p.main.body) h₀ s.heap && namesBound p s.heap && gensDone s && laidKept h₀ s.heap),openSeen q loose (importedModules p.main.body) Xt true s)
def KR (p:Program) (n:Nat) (as:List Addr) (w:World) (os:OsState):Frag:=match run p n w os with
  | some r=>as.filterMap fun a=>match Nat.blt a r.2.1.n with | true=>((r.2.1.tree.get a).bind alive).map fun o=>(a,o) | false=>none
  | none=>[]
def Ya (p:Program) (N:Nat) (w:World):Heap:=((openEnds treeTable p w N).map Shared.heap).getD default
theorem kr_in {p:Program} {n:Nat} {w:World} {os:OsState} {r:Flow×SharedT×Code×Pos} (h:run p n w os = some r):∀ as:List Addr,(KR p n as w os).In r.2.1.abs.heap:=by
  intro as
  unfold KR
  rw [h]
  intro a o e
  dsimp only at e
  induction as with
  | nil=>cases e
  | cons b as ih =>
    rw [List.filterMap_cons] at e
    split at e
    · exact ih e
    · next x hx =>
      split at hx
      · next hb =>
        obtain ⟨o',ho,rfl⟩:=Option.map_eq_some_iff.mp hx
        obtain ⟨o2,g,al⟩:=Option.bind_eq_some_iff.mp ho
        rw [List.lookup_cons] at e
        split at e
        · next hab =>
          cases e
          rw [eq_of_beq hab]
          exact (abs_get (by simpa [Nat.blt_eq] using hb) g).trans al
        · exact ih e
      · cases hx
theorem fin_run {p:Program} {w:World} {s:Shared} {c:Code} {pos:Pos}:topRun treeTable p w 11 ann 2 s ⟨doneF .next,c,pos,B⟩ = some s:=rfl
theorem size_ok (w:World):((boot_heap w.params).isNs mainGlobals && (Array.mk ([]:List GenState)).size == 0,(boot_heap w.params).objs.size,(boot_heap w.params).nsMap mainGlobals "__annotations__") = (true,11,ann):=by kernel_rfl
theorem left2 {p q:Program} {loose:List Str} {Xt:Shared→Bool} {n N:Nat}
    (e:opening p = plainProg p.main.scope.names) (f:∀ s,fenceModules? p s = some s) (hN:Nat.ble 600 N = true) (le:Nat.ble (12+(1+(n+2))) N = true)
    (h1:∀ w os,topGo treeTable p w 11 ann 12 (S0 w os) (topStub p) = some ((S1 w os).abs,⟨denote treeTable (cE p),cE p,z,B⟩))
    (h2:∀ w os,segRun treeTable p w 11 ann 1 1 (S1 w os).abs (blockOf (behindTheImports p) (env p) (cE p) z B) = some (.next,(S1 w os).abs,cE p,z))
    (h3:∀ w,(fun os=>(run p n w os).map fun r=>(r.1,r.2.2.1,lk p q loose Xt (boot_heap w.params) r.2.1.abs)) = fun _=>some (.next,cE p,true,openGood q loose)) (as:List Addr) (w:World) :
    (openEnds treeTable p w N).map (fun s=>(openSeen q loose (importedModules p.main.body) Xt true s,s.heap)) = some (openGood q loose,Ya p N w)∧∃ os,(KR p n as w os).In (Ya p N w):=by
  obtain ⟨⟨h,gs,d,k,os⟩,e1,e2⟩:=Option.map_eq_some_iff.mp (boot_open e hN f w)
  obtain ⟨rfl,rfl,rfl,rfl⟩:h = boot_heap w.params∧gs = Array.mk []∧d = boot_drawn∧k = boot_toks:=by simpa using e2
  obtain ⟨z1,z2,z3⟩:_∧_∧_:=by simpa only [Prod.mk.injEq] using size_ok w
  obtain ⟨⟨fl,st,c,pos⟩,r1,r2⟩:=Option.map_eq_some_iff.mp (congrFun (h3 w) os)
  obtain ⟨rfl,rfl,l1,l2⟩:fl = .next∧c = cE p∧_∧_:=by simpa only [Prod.mk.injEq,lk] using r2
  have t3:topRun treeTable p w 11 ann (n+2) (S1 w os).abs (restOf (behindTheImports p++[]) (env p) (cE p) z B) = some st.abs:=piece_app (segRun_of r1) (piece_nil fin_run)
  rw [List.append_nil] at t3
  have t1:=go_top (h1 w os) (piece_block (h2 w os) t3)
  have t:=topRun_mono (N - (12+(1+(n+2)))) _ _ _ _ t1
  rw [show 12+(1+(n+2))+(N - (12+(1+(n+2)))) = N by have:=Nat.le_of_ble_eq_true le; omega] at t
  have tf:topFrom treeTable p w N ⟨boot_heap w.params,Array.mk [],boot_drawn,boot_toks,os⟩ = some st.abs:=by
    unfold topFrom
    dsimp only
    rw [z1,z2,z3,t]
    show (match staticsOk (importedModules p.main.body) (boot_heap w.params) st.abs.heap && namesBound p st.abs.heap && gensDone st.abs && laidKept (boot_heap w.params) st.abs.heap with | true=>_ | false=>_) = _
    rw [l1]
  have te:openEnds treeTable p w N = some st.abs:=by
    unfold openEnds
    rw [e1]
    exact tf
  have ty:Ya p N w = st.abs.heap:=by
    unfold Ya
    rw [te]
    rfl
  rw [te,ty]
  exact ⟨congrArg some (Prod.ext l2 rfl),os,kr_in r1 as⟩
def YP (p:Program) (n:Nat) (as:List Addr) (w:World) (h:Heap):Prop:=∃ os,(KR p n as w os).In h
end Hd
namespace L2
open PySem PySem.Spec PyProof.Rows
theorem walk_of2 {l:PySem.W.OpenLaw} {n k:Nat} {q:Program} {loose:List Str} {XP:(Str→Option Value)→Heap→Prop} {YP:World→Heap→Prop} {d:DefRec} {K:World→OsState→PySem.W.Frag} {CX:CXT} {sp:PySem.W.Frag→Sp} {x:Str}
    (hn:l.most = some n) (hn2:n≤sizeLine) (hdf:d.params.defaults = []) (hr:Room k callerA)
    (hY:∀ (w:World) (h:Heap),YP w h→∃ os,(K w os).In h)
    (F:∀ (w:World) (os:OsState) (mg:Str→Option Value) (fa:Addr) (h:Heap),(K w os).In h→h.Ns mainGlobals mg→mg d.name = some (.ref fa) →
      ∃ fd:FuncData,(∀ (s:Shared) (u:Value),BindsTo s fd ⟨[u],[]⟩ [(x,u)]) ∧
        ∀ base:Heap,(K w os).In base→base.Ns mainGlobals mg→FnOk l.prog w (K w os) mg base CX k fa fd [x] (sp (K w os)))
    (hsp:∀ (K:PySem.W.Frag) (H:Hp) (a:Addr) (ns:List Int),ns.length≤n→Only H→SqL K H a (ns.map V.int)→sp K [.ref a] H (fun v _=>v = .bl true) fun _ _ _=>False)
    (hCX:∀ (H:Hp) (s:Shared) (e:Value) (s':Shared),CX [] H s (fun _ _ _=>False) e s'→False) :
    PySem.W.WalkO q loose XP YP l.row.toRowW d [] (fun f vs=>PySem.call f vs):=by
  refine Att.attach_call hn hdf fun w s₀ s₁ mg mb fa o pm cd doc a vs ns G Y ho hd hcd hmg hobj hints hlen hg=>?_
  obtain ⟨os,KX⟩:=hY w _ Y
  obtain ⟨fd,hb,hF⟩:=F w os mg fa _ KX G.T.g hmg
  exact law_call KX G.T.g G.T.b G.T.builtins G.T.nolimit hg hobj hints (Nat.le_trans hlen hn2) hr hF hb (fun H hO hS=>hsp _ H a ns hlen hO hS) fun H e s'=>hCX H s₁ e s'
end L2
namespace L2
open PySem PySem.W
def gA (K:Frag) (x:Str):Addr:=match nsIn K mainGlobals x with | some (some (.ref a))=>a | _=>0
def fA (K:Frag) (C:Addr) (x:Str):Addr:=match findIn K (.ref C) x with | some (some (.ref a))=>a | _=>0
def obV (K:Frag) (f:Addr):Obj:=(K.lookup f).getD default
def fdV (o:Obj):FuncData:=match o.data with | .func fd=>fd | _=>default
def esV (o:Obj):Array DictEntry:=match o.data with | .dict es _=>es | _=>#[]
def epV (o:Obj):Nat:=match o.data with | .dict _ n=>n | _=>0
def tkV (K:Frag) (x:Str):Tok:=match nsIn K mainGlobals x with | some (some (.int _ t))=>t | some (some (.str _ t))=>t | _=>0
abbrev isG (K:Frag) (x:Str):Prop:=nsIn K mainGlobals x = some (some (.ref (gA K x)))
abbrev fnF (K:Frag) (x qual:Str) (st:Stmt) (f:Addr):Prop :=
  K.lookup f = some ⟨(obV K f).cls,(obV K f).dict,.func (fnOf x qual (defArgs st) (defBody st) (defScope st) .none (fdV (obV K f)).kwdefaults (fdV (obV K f)).doc (fdV (obV K f)).pyModule (fdV (obV K f)).annotations (fdV (obV K f)).code (fdV (obV K f)).closureTuple),(obV K f).slots⟩ ∧
    codeIn K (fdV (obV K f)).code qual = true∧keepIn K (.ref f) = true
abbrev atF (K:Frag) (x:Str) (st:Stmt):Prop:=isG K x∧fnF K x x st (gA K x)
abbrev noF (K:Frag) (x:Str):Prop:=nsIn K mainGlobals x = some none
abbrev tuF (K:Frag) (x:Str) (B:List Str):Prop:=isG K x∧tupIs K (gA K x) B = true
abbrev doF (K:Frag) (a:Addr):Prop:=K.lookup a = some { cls:=.type "dict",data:=.dict (esV (obV K a)) (epV (obV K a)) }
theorem ct_u {K:Frag} {h:Heap} {mg:Str→Option Value} {x:Str} {B:List Str} (F:tuF K x B) (X:K.In h) (G:h.Ns mainGlobals mg):∃ a,mg x = some (.ref a)∧∀ H,SqT K H a (B.map V.str) :=
  ⟨_,mg_of X G F.1,tupIs_at F.2⟩
end L2
end

namespace Law
open PySem L2
theorem make {P:Program} {w:World} {K:PySem.W.Frag} {mg:Str→Option Value} {base:Heap} {f0 f1 f2 f3 f4 f5 f6 f7 f8 f9 f10 f11 f12 f13 f14 f15 f16 f17 f18 f19 f20 f21 f22 f23 f24 f25 f26 f27 f28 f29 f30 f31 f32 f33 f34 f35 f36 f37 f38 f39:Addr} {d0 d1 d2 d3 d4 d5 d6 d7 d8 d9 d10 d11 d12 d13 d14 d15 d16 d17 d18 d19 d20 d21 d22 d23 d24 d25 d26 d27 d28 d29 d30 d31 d32 d33 d34 d35 d36 d37 d38 d39:FuncData} {aB aHa aRa:Addr} {tM tF:Tok}
    (aPU:At K mg "pulled" sPulled ["hall","hand","goal"] f0 d0) (aDR:At K mg "drawn" sDrawn ["hall","rooms","hand","goal"] f1 d1) (aWW:At K mg "ways_within" sWaysIn ["hall","rooms"] f2 d2) (aES:At K mg "entries_of" sEntries ["ways"] f3 d3) (aSV:At K mg "solved" sSolved ["hall"] f4 d4) (aST:At K mg "settled" sSettled ["hall","rooms","known"] f5 d5) (aWP:At K mg "won_part" sWonPart ["hall","rooms","known"] f6 d6) (aLD:At K mg "led" sLed ["hall","rooms","hand","steps"] f7 d7) (aMV:At K mg "move_from" sMove ["room","ways","steps"] f8 d8) (aIR:At K mg "is_room" sIsRoom ["hall","number"] f9 d9) (aLK:At K mg "looked" sLooked ["hall"] f10 d10) (aLA:At K mg "look_at_ways" sLookAt ["hall","room","ways"] f11 d11) (aSH:At K mg "shown" sShown ["hall"] f12 d12) (aRD:At K mg "read" sRead ["text"] f13 d13) (aIW:At K mg "is_row" sIsRow ["words"] f14 d14) (aIY:At K mg "is_way" sIsWay ["word"] f15 d15) (aWK:At K mg "walk" sWalk ["hall","start","moves"] f16 d16) (aLM:At K mg "look_at_moves" sLookMv ["hall","moves"] f17 d17) (aWI:At K mg "within" sWithin ["saying"] f18 d18) (aTR:At K mg "true_at" sTrueAt ["world","saying"] f19 d19) (aHO:At K mg "holding" sHolding ["world","saying","named"] f20 d20) (aLE:At K mg "led_on" sLedOn ["kind","found"] f21 d21) (aBY:At K mg "holds_by_itself" sByItself ["saying","marks"] f22 d22) (aCL:At K mg "closed" sClosed ["world","saying","named"] f23 d23) (aHA:At K mg "hall_of" sHallOf ["world","saying"] f24 d24) (aNU:At K mg "numbered" sNumbered ["saying","number","binders"] f25 d25) (aWF:At K mg "ways_from" sWaysFrom ["world","place","part","leads","size"] f26 d26) (aEN:At K mg "holds_at_the_end" sEnd ["part","marks"] f27 d27) (aHD:At K mg "hand_of" sHandOf ["part"] f28 d28) (aRK:At K mg "rank_of" sRankOf ["part"] f29 d29) (aGR:At K mg "greatest_rank" sGreat ["saying"] f30 d30) (aCE:At K mg "_law_cell_at" sCell ["script","k"] f31 d31) (aNE:At K mg "_law_next" sNext ["script","spot"] f32 d32) (aRM:At K mg "_law_room" sRoom ["cell","many","ranks"] f33 d33) (aHL:At K mg "_law_hall" sHall ["script","spot","most","ranks"] f34 d34) (aLF:At K mg "_law_leaf" sLeaf ["cell","bound"] f35 d35) (aSA:At K mg "_law_saying" sSay ["script","spot","deep","bound"] f36 d36) (aWO:At K mg "_law_world" sWorld ["script","spot","most"] f37 d37) (aAS:At K mg "_law_asked" sAsked ["way","hall","saying","world"] f38 d38) (aLW:At K mg "law" sLaw ["script"] f39 d39)
    (ml:mg "len" = none) (mr:mg "range" = none) (mt:mg "tuple" = none) (mi:mg "isinstance" = none) (mli:mg "list" = none) (mz:mg "zip" = none) (md:mg "dict" = none) (man:mg "any" = none) (mal:mg "all" = none) (mm:mg "max" = none) (mso:mg "sorted" = none) (mse:mg "set" = none) (me:mg "enumerate" = none) (mint:mg "int" = none)
    (mB:mg "BINDERS" = some (.ref aB)) (kB:∀ H,SqT K H aB ((["least","most"]:List Str).map V.str)) (mHa:mg "HANDS" = some (.ref aHa)) (kHa:KDw P w K aHa hands) (mRa:mg "RANKS" = some (.ref aRa)) (kRa:KDw P w K aRa ranks) (mM:mg "MOST_ROWS" = some (.int 80 tM)) (mF:mg "FIGURES" = some (.str (Str.ofString "0123456789") tF)):FnOk P w K mg base CX0 23 f39 d39 ["script"] (spLaw K):=by
  have GLE:=ok_ledon (P:=P) (w:=w) (mg:=mg) (base:=base) aLE.fn man mal
  have GBY2:=ok_self (P:=P) (w:=w) (mg:=mg) (base:=base) aBY.fn
  have GBY:=FnOk.imp (sp':=spByItself) GBY2 fun vs H Q E ⟨v,s,m,e1,e2,_,q⟩=>⟨v,s,m,e1,e2,q⟩
  have GHO:=ok_holds (P:=P) (w:=w) (mg:=mg) (base:=base) aHO.fn aHO.bd aHO.kp aHO.gl aCL.fn aCL.bd aCL.kp aCL.gl GLE aLE.bd aLE.kp aLE.gl GBY aBY.bd aBY.kp aBY.gl mB kB mli mz md 4
  have GTR:=ok_true (P:=P) (w:=w) (mg:=mg) (base:=base) aTR.fn (by decide) GHO aHO.bd aHO.kp aHO.gl
  have GWI:=ok_within (P:=P) (w:=w) (mg:=mg) (base:=base) aWI.fn mi mt
  have GGR:=ok_great (P:=P) (w:=w) (mg:=mg) (base:=base) aGR.fn GWI aWI.bd aWI.kp aWI.gl aGR.bd aGR.kp aGR.gl mm 4
  have GRK:=ok_rankof (P:=P) (w:=w) (mg:=mg) (base:=base) aRK.fn GGR aGR.bd aGR.kp aGR.gl mB kB
  have GHD:=ok_handof (P:=P) (w:=w) (mg:=mg) (base:=base) aHD.fn
  have GEN:=ok_end (P:=P) (w:=w) (mg:=mg) (base:=base) aEN.fn GBY2 aBY.bd aBY.kp aBY.gl
  have GWF:=ok_waysfrom (P:=P) (w:=w) (mg:=mg) (base:=base) aWF.fn mt
  have GNU:=ok_numbered (P:=P) (w:=w) (mg:=mg) (base:=base) aNU.fn GWI aWI.bd aWI.kp aWI.gl aNU.bd aNU.kp aNU.gl mB kB md mt ml 4
  have GHA:=ok_hallof (P:=P) (w:=w) (mg:=mg) (base:=base) aHA.fn (by decide) GNU aNU.bd aNU.kp aNU.gl GWF aWF.bd aWF.kp aWF.gl GEN aEN.bd aEN.kp aEN.gl GHD aHD.bd aHD.kp aHD.gl GRK aRK.bd aRK.kp aRK.gl ml mr
  have GWW:=ok_waysin (P:=P) (w:=w) (mg:=mg) (base:=base) aWW.fn md
  have GES:=ok_entries (P:=P) (w:=w) (mg:=mg) (base:=base) aES.fn md
  have GDR:=ok_drawn (P:=P) (w:=w) (mg:=mg) (base:=base) aDR.fn GWW aWW.bd aWW.kp aWW.gl GES aES.bd aES.kp aES.gl md ml mli
  have GMV:=ok_move (P:=P) (w:=w) (mg:=mg) (base:=base) aMV.fn
  have GLD:=ok_led (P:=P) (w:=w) (mg:=mg) (base:=base) aLD.fn GWW aWW.bd aWW.kp aWW.gl GMV aMV.bd aMV.kp aMV.gl
  have GX:=ok_both (P:=P) (w:=w) (mg:=mg) (base:=base) aWP.fn aST.fn aWP.bd aWP.kp aWP.gl aST.bd aST.kp aST.gl GDR aDR.bd aDR.kp aDR.gl GLD aLD.bd aLD.kp aLD.gl mm ml md mt 8
  have GSV:=ok_solved (P:=P) (w:=w) (mg:=mg) (base:=base) aSV.fn GX.2 aST.bd aST.kp aST.gl ml mli mr
  have GPU:=ok_pulled (P:=P) (w:=w) (mg:=mg) (base:=base) aPU.fn GDR aDR.bd aDR.kp aDR.gl ml mli mr
  have GIR:=ok_isroom (P:=P) (w:=w) (mg:=mg) (base:=base) aIR.fn ml
  have GLA:=ok_lookat (P:=P) (w:=w) (mg:=mg) (base:=base) aLA.fn GIR aIR.bd aIR.kp aIR.gl
  have GLK:=ok_looked (P:=P) (w:=w) (mg:=mg) (base:=base) aLK.fn GLA aLA.bd aLA.kp aLA.gl ml me
  have GSH:=ok_shown (P:=P) (w:=w) (mg:=mg) (base:=base) aSH.fn
  have GIY:=ok_isway (P:=P) (w:=w) (mg:=mg) (base:=base) aIY.fn mF ml man
  have GIW:=ok_isrow (P:=P) (w:=w) (mg:=mg) (base:=base) aIW.fn GIY aIY.bd aIY.kp aIY.gl mHa kHa mRa kRa ml mal
  have GRD:=ok_read (P:=P) (w:=w) (mg:=mg) (base:=base) aRD.fn GIW aIW.bd aIW.kp aIW.gl GLK aLK.bd aLK.kp aLK.gl mM mHa kHa mRa kRa ml me mt mint
  have GLM:=ok_lookmv (P:=P) (w:=w) (mg:=mg) (base:=base) aLM.fn me
  have GWK:=ok_walk (P:=P) (w:=w) (mg:=mg) (base:=base) aWK.fn GIR aIR.bd aIR.kp aIR.gl GLM aLM.bd aLM.kp aLM.gl ml mli
  have GCE:=ok_cell (P:=P) (w:=w) (mg:=mg) (base:=base) aCE.fn ml
  have GNE:=ok_next (P:=P) (w:=w) (mg:=mg) (base:=base) aNE.fn GCE aCE.bd aCE.kp aCE.gl
  have GRM:=ok_room (P:=P) (w:=w) (mg:=mg) (base:=base) aRM.fn mso mse mli mr mt
  have GHL:=ok_hall (P:=P) (w:=w) (mg:=mg) (base:=base) aHL.fn GNE aNE.bd aNE.kp aNE.gl GRM aRM.bd aRM.kp aRM.gl mr
  have GLF:=ok_leaf (P:=P) (w:=w) (mg:=mg) (base:=base) aLF.fn ml
  have GSA:=ok_say (P:=P) (w:=w) (mg:=mg) (base:=base) aSA.fn GNE aNE.bd aNE.kp aNE.gl GLF aLF.bd aLF.kp aLF.gl aSA.bd aSA.kp aSA.gl ml 4
  have GWO:=ok_world (P:=P) (w:=w) (mg:=mg) (base:=base) aWO.fn GNE aNE.bd aNE.kp aNE.gl mr mt
  have GAS:=ok_asked (P:=P) (w:=w) (mg:=mg) (base:=base) aAS.fn GSV aSV.bd aSV.kp aSV.gl GPU aPU.bd aPU.kp aPU.gl GWK aWK.bd aWK.kp aWK.gl GSH aSH.bd aSH.kp aSH.gl GRD aRD.bd aRD.kp aRD.gl GTR aTR.bd aTR.kp aTR.gl GHA aHA.bd aHA.kp aHA.gl
  exact ok_law (P:=P) (w:=w) (mg:=mg) (base:=base) aLW.fn GCE aCE.bd aCE.kp aCE.gl GHL aHL.bd aHL.kp aHL.gl GWO aWO.bd aWO.kp aWO.gl GSA aSA.bd aSA.kp aSA.gl GAS aAS.bd aAS.kp aAS.gl ml mr mli mi mal
end Law
namespace Law
open PySem L2
theorem all_mk {l:PySem.W.OpenLaw} {w:World} {K:PySem.W.Frag} {mg:Str→Option Value} {fa:Addr} (hfa:mg "law" = some (.ref fa)) (D0:∃ f fd,At K mg "pulled" sPulled ["hall","hand","goal"] f fd) (D1:∃ f fd,At K mg "drawn" sDrawn ["hall","rooms","hand","goal"] f fd) (D2:∃ f fd,At K mg "ways_within" sWaysIn ["hall","rooms"] f fd) (D3:∃ f fd,At K mg "entries_of" sEntries ["ways"] f fd) (D4:∃ f fd,At K mg "solved" sSolved ["hall"] f fd) (D5:∃ f fd,At K mg "settled" sSettled ["hall","rooms","known"] f fd) (D6:∃ f fd,At K mg "won_part" sWonPart ["hall","rooms","known"] f fd) (D7:∃ f fd,At K mg "led" sLed ["hall","rooms","hand","steps"] f fd) (D8:∃ f fd,At K mg "move_from" sMove ["room","ways","steps"] f fd) (D9:∃ f fd,At K mg "is_room" sIsRoom ["hall","number"] f fd) (D10:∃ f fd,At K mg "looked" sLooked ["hall"] f fd) (D11:∃ f fd,At K mg "look_at_ways" sLookAt ["hall","room","ways"] f fd) (D12:∃ f fd,At K mg "shown" sShown ["hall"] f fd) (D13:∃ f fd,At K mg "read" sRead ["text"] f fd) (D14:∃ f fd,At K mg "is_row" sIsRow ["words"] f fd) (D15:∃ f fd,At K mg "is_way" sIsWay ["word"] f fd) (D16:∃ f fd,At K mg "walk" sWalk ["hall","start","moves"] f fd) (D17:∃ f fd,At K mg "look_at_moves" sLookMv ["hall","moves"] f fd) (D18:∃ f fd,At K mg "within" sWithin ["saying"] f fd) (D19:∃ f fd,At K mg "true_at" sTrueAt ["world","saying"] f fd) (D20:∃ f fd,At K mg "holding" sHolding ["world","saying","named"] f fd) (D21:∃ f fd,At K mg "led_on" sLedOn ["kind","found"] f fd) (D22:∃ f fd,At K mg "holds_by_itself" sByItself ["saying","marks"] f fd) (D23:∃ f fd,At K mg "closed" sClosed ["world","saying","named"] f fd) (D24:∃ f fd,At K mg "hall_of" sHallOf ["world","saying"] f fd) (D25:∃ f fd,At K mg "numbered" sNumbered ["saying","number","binders"] f fd) (D26:∃ f fd,At K mg "ways_from" sWaysFrom ["world","place","part","leads","size"] f fd) (D27:∃ f fd,At K mg "holds_at_the_end" sEnd ["part","marks"] f fd) (D28:∃ f fd,At K mg "hand_of" sHandOf ["part"] f fd) (D29:∃ f fd,At K mg "rank_of" sRankOf ["part"] f fd) (D30:∃ f fd,At K mg "greatest_rank" sGreat ["saying"] f fd) (D31:∃ f fd,At K mg "_law_cell_at" sCell ["script","k"] f fd) (D32:∃ f fd,At K mg "_law_next" sNext ["script","spot"] f fd) (D33:∃ f fd,At K mg "_law_room" sRoom ["cell","many","ranks"] f fd) (D34:∃ f fd,At K mg "_law_hall" sHall ["script","spot","most","ranks"] f fd) (D35:∃ f fd,At K mg "_law_leaf" sLeaf ["cell","bound"] f fd) (D36:∃ f fd,At K mg "_law_saying" sSay ["script","spot","deep","bound"] f fd) (D37:∃ f fd,At K mg "_law_world" sWorld ["script","spot","most"] f fd) (D38:∃ f fd,At K mg "_law_asked" sAsked ["way","hall","saying","world"] f fd) (D39:∃ f fd,At K mg "law" sLaw ["script"] f fd) (z0:mg "len" = none) (z1:mg "range" = none) (z2:mg "tuple" = none) (z3:mg "isinstance" = none) (z4:mg "list" = none) (z5:mg "zip" = none) (z6:mg "dict" = none) (z7:mg "any" = none) (z8:mg "all" = none) (z9:mg "max" = none) (z10:mg "sorted" = none) (z11:mg "set" = none) (z12:mg "enumerate" = none) (z13:mg "int" = none) (C0:∃ a,mg "BINDERS" = some (.ref a)∧∀ H,SqT K H a ((["least","most"]:List Str).map V.str)) (E0:∃ a,mg "HANDS" = some (.ref a)∧KDw l.prog w K a hands) (E1:∃ a,mg "RANKS" = some (.ref a)∧KDw l.prog w K a ranks) (X1:∃ tk,mg "MOST_ROWS" = some (.int 80 tk)) (X2:∃ tk,mg "FIGURES" = some (.str (Str.ofString "0123456789") tk)) :
    ∃ fd:FuncData,(∀ (s:Shared) (v:Value),BindsTo s fd ⟨[v],[]⟩ [("script",v)])∧∀ base:Heap,K.In base→base.Ns mainGlobals mg→FnOk l.prog w K mg base CX0 23 fa fd ["script"] (spLaw K):=by
  obtain ⟨f0,d0,a0⟩:=D0
  obtain ⟨f1,d1,a1⟩:=D1
  obtain ⟨f2,d2,a2⟩:=D2
  obtain ⟨f3,d3,a3⟩:=D3
  obtain ⟨f4,d4,a4⟩:=D4
  obtain ⟨f5,d5,a5⟩:=D5
  obtain ⟨f6,d6,a6⟩:=D6
  obtain ⟨f7,d7,a7⟩:=D7
  obtain ⟨f8,d8,a8⟩:=D8
  obtain ⟨f9,d9,a9⟩:=D9
  obtain ⟨f10,d10,a10⟩:=D10
  obtain ⟨f11,d11,a11⟩:=D11
  obtain ⟨f12,d12,a12⟩:=D12
  obtain ⟨f13,d13,a13⟩:=D13
  obtain ⟨f14,d14,a14⟩:=D14
  obtain ⟨f15,d15,a15⟩:=D15
  obtain ⟨f16,d16,a16⟩:=D16
  obtain ⟨f17,d17,a17⟩:=D17
  obtain ⟨f18,d18,a18⟩:=D18
  obtain ⟨f19,d19,a19⟩:=D19
  obtain ⟨f20,d20,a20⟩:=D20
  obtain ⟨f21,d21,a21⟩:=D21
  obtain ⟨f22,d22,a22⟩:=D22
  obtain ⟨f23,d23,a23⟩:=D23
  obtain ⟨f24,d24,a24⟩:=D24
  obtain ⟨f25,d25,a25⟩:=D25
  obtain ⟨f26,d26,a26⟩:=D26
  obtain ⟨f27,d27,a27⟩:=D27
  obtain ⟨f28,d28,a28⟩:=D28
  obtain ⟨f29,d29,a29⟩:=D29
  obtain ⟨f30,d30,a30⟩:=D30
  obtain ⟨f31,d31,a31⟩:=D31
  obtain ⟨f32,d32,a32⟩:=D32
  obtain ⟨f33,d33,a33⟩:=D33
  obtain ⟨f34,d34,a34⟩:=D34
  obtain ⟨f35,d35,a35⟩:=D35
  obtain ⟨f36,d36,a36⟩:=D36
  obtain ⟨f37,d37,a37⟩:=D37
  obtain ⟨f38,d38,a38⟩:=D38
  obtain ⟨f39,d39,a39⟩:=D39
  obtain ⟨ca0,mc0,kc0⟩:=C0
  obtain ⟨da0,me0,ke0⟩:=E0
  obtain ⟨da1,me1,ke1⟩:=E1
  obtain ⟨xt1,mx1⟩:=X1
  obtain ⟨xt2,mx2⟩:=X2
  have e:=hfa.symm.trans a39.gl
  cases e
  refine ⟨d39,fun s v=>a39.bt s [v] rfl,fun base _ _=>?_⟩
  exact make a0 a1 a2 a3 a4 a5 a6 a7 a8 a9 a10 a11 a12 a13 a14 a15 a16 a17 a18 a19 a20 a21 a22 a23 a24 a25 a26 a27 a28 a29 a30 a31 a32 a33 a34 a35 a36 a37 a38 a39 z0 z1 z2 z3 z4 z5 z6 z7 z8 z9 z10 z11 z12 z13 mc0 kc0 me0 ke0 me1 ke1 mx1 mx2
theorem walk {l:PySem.W.OpenLaw} {q:Program} {loose:List Str} {XP:(Str→Option Value)→Heap→Prop} {YP:World→Heap→Prop} {d:DefRec} {K:World→OsState→PySem.W.Frag} (hn:l.most = some 63) (hdf:d.params.defaults = [])
    (hY:∀ (w:World) (h:Heap),YP w h→∃ os,(K w os).In h)
    (F:∀ (w:World) (os:OsState) (mg:Str→Option Value) (fa:Addr) (h:Heap),(K w os).In h→h.Ns mainGlobals mg→mg d.name = some (.ref fa) →
      ∃ fd:FuncData,(∀ (s:Shared) (u:Value),BindsTo s fd ⟨[u],[]⟩ [("script",u)])∧∀ base:Heap,(K w os).In base→base.Ns mainGlobals mg→FnOk l.prog w (K w os) mg base CX0 23 fa fd ["script"] (spLaw (K w os))) :
    PySem.W.WalkO q loose XP YP l.row.toRowW d [] (fun f vs=>PySem.call f vs) :=
  L2.walk_of2 (n:=63) (k:=23) (x:="script") (CX:=CX0) (sp:=spLaw) hn (by decide) hdf ⟨rfl,by decide,by decide⟩ hY F (fun _ _ a ns hl hO hS=>⟨a,ns,rfl,Scr.of hS hO,hl,fun _=>rfl⟩) fun _ _ _ _ z=>z
open PySem.W
structure Facts (w:World) (K:Frag):Prop where
  d0:atF K "pulled" sPulled
  d1:atF K "drawn" sDrawn
  d2:atF K "ways_within" sWaysIn
  d3:atF K "entries_of" sEntries
  d4:atF K "solved" sSolved
  d5:atF K "settled" sSettled
  d6:atF K "won_part" sWonPart
  d7:atF K "led" sLed
  d8:atF K "move_from" sMove
  d9:atF K "is_room" sIsRoom
  d10:atF K "looked" sLooked
  d11:atF K "look_at_ways" sLookAt
  d12:atF K "shown" sShown
  d13:atF K "read" sRead
  d14:atF K "is_row" sIsRow
  d15:atF K "is_way" sIsWay
  d16:atF K "walk" sWalk
  d17:atF K "look_at_moves" sLookMv
  d18:atF K "within" sWithin
  d19:atF K "true_at" sTrueAt
  d20:atF K "holding" sHolding
  d21:atF K "led_on" sLedOn
  d22:atF K "holds_by_itself" sByItself
  d23:atF K "closed" sClosed
  d24:atF K "hall_of" sHallOf
  d25:atF K "numbered" sNumbered
  d26:atF K "ways_from" sWaysFrom
  d27:atF K "holds_at_the_end" sEnd
  d28:atF K "hand_of" sHandOf
  d29:atF K "rank_of" sRankOf
  d30:atF K "greatest_rank" sGreat
  d31:atF K "_law_cell_at" sCell
  d32:atF K "_law_next" sNext
  d33:atF K "_law_room" sRoom
  d34:atF K "_law_hall" sHall
  d35:atF K "_law_leaf" sLeaf
  d36:atF K "_law_saying" sSay
  d37:atF K "_law_world" sWorld
  d38:atF K "_law_asked" sAsked
  d39:atF K "law" sLaw
  z0:noF K "len"
  z1:noF K "range"
  z2:noF K "tuple"
  z3:noF K "isinstance"
  z4:noF K "list"
  z5:noF K "zip"
  z6:noF K "dict"
  z7:noF K "any"
  z8:noF K "all"
  z9:noF K "max"
  z10:noF K "sorted"
  z11:noF K "set"
  z12:noF K "enumerate"
  z13:noF K "int"
  c0:tuF K "BINDERS" ["least","most"]
  e0:isG K "HANDS"∧doF K (gA K "HANDS")∧(esV (obV K (gA K "HANDS"))).toList = ((esV (obV K (gA K "HANDS"))).toList.map ofE).map (toE w)∧((esV (obV K (gA K "HANDS"))).toList.map ofE).map kvE = hands∧((gA K "HANDS") == sysModules) = false
  e1:isG K "RANKS"∧doF K (gA K "RANKS")∧(esV (obV K (gA K "RANKS"))).toList = ((esV (obV K (gA K "RANKS"))).toList.map ofE).map (toE w)∧((esV (obV K (gA K "RANKS"))).toList.map ofE).map kvE = ranks∧((gA K "RANKS") == sysModules) = false
  x1:nsIn K mainGlobals "MOST_ROWS" = some (some (.int 80 (tkV K "MOST_ROWS")))
  x2:nsIn K mainGlobals "FIGURES" = some (some (.str (Str.ofString "0123456789") (tkV K "FIGURES")))
end Law
noncomputable section
namespace Hd
open PySem PySem.W PyProof.Rows
abbrev p0:Program:=PySem.Challenge.pw_everduel_k21_lists_told
def q0:Program:=view p0 [58]
def l0:List Str:=(["pulled","drawn","ways_within","entries_of","solved","settled","won_part","led","move_from","DuelError","BadText","NoWay","NoRoom","NotRising","BadMove","MOST_ROWS","FIGURES","HANDS","RANKS","is_room","looked","look_at_ways","shown","read","is_row","is_way","walk","look_at_moves","BINDERS","within","true_at","holding","led_on","holds_by_itself","closed","hall_of","numbered","ways_from","holds_at_the_end","hand_of","rank_of","greatest_rank","_law_cell_at","_law_next","_law_room","_law_hall","_law_leaf","_law_saying","_law_world","_law_asked"]:List String).map Str.ofString
def x0 (s:Shared):Bool:=xlAt q0 [] s && recOk PySem.Challenge.rw_everduel_k21_lists_told.row.toRowW.records s
def as0:List Addr:=[2,3,15,18,19,20,23,24,25,28,29,30,33,34,35,38,39,40,43,44,45,48,49,50,52,53,55,56,57,60,61,62,69,70,71,72,75,82,83,84,87,94,95,96,99,106,107,108,111,118,119,120,123,130,131,132,135,136,137,139,140,142,143,144,146,147,149,150,151,153,154,156,157,158,161,162,163,166,167,168,171,172,173,176,177,178,180,181,183,184,185,187,188,190,191,192,193,196,197,198,200,201,203,204,205,208,209,210,212,213,215,216,217,219,220,222,223,224,227,228,229,231,232,234,235,236,238,239,241,242,243,246,247,248,250,251,253,254,255,257,258,260,261,262,264,265,267,268,269,272,273,274,276,277,279,280,281,283,284,286,287,288,290,291,293,294,295,298,299,300,302,303,305,306,307,310,311,312,315,316,317,320,321,322,325,326]
@[irreducible] def K0 (w:World) (os:OsState):Frag:=KR p0 2782 as0 w os
set_option maxHeartbeats 0
abbrev P3 (w:World):Prop:=(fun os=>(run p0 2782 w os).map fun r=>(r.1,r.2.2.1,lk p0 q0 l0 x0 (boot_heap w.params) r.2.1.abs)) = fun _=>some (.next,cE p0,true,openGood q0 l0)
theorem h3f (w:World):P3 (w.withFollow "special-get-raises" false):=by kernel_rfl
theorem faf (w:World) (os:OsState):Law.Facts (w.withFollow "special-get-raises" false) (K0 (w.withFollow "special-get-raises" false) os):=by constructor<;>(repeat' apply And.intro)<;>kernel_rfl
theorem h3t (w:World):P3 (w.withFollow "special-get-raises" true):=by kernel_rfl
theorem fat (w:World) (os:OsState):Law.Facts (w.withFollow "special-get-raises" true) (K0 (w.withFollow "special-get-raises" true) os):=by constructor<;>(repeat' apply And.intro)<;>kernel_rfl
theorem h3:∀ w,P3 w:=byRow2 "special-get-raises" h3f h3t
theorem facts:∀ (w:World) (os:OsState),Law.Facts w (K0 w os):=byRow2 "special-get-raises" faf fat
theorem left (w:World):(openEnds treeTable p0 w 2982).map (fun s=>(openSeen q0 l0 (importedModules p0.main.body) x0 true s,s.heap)) = some (openGood q0 l0,Ya p0 2982 w)∧∃ os,(KR p0 2782 as0 w os).In (Ya p0 2982 w) :=
  left2 (by kernel_rfl) (fun s=>by kernel_rfl) rfl rfl (fun w os=>by kernel_rfl) (fun w os=>by kernel_rfl) h3 as0 w
theorem said:PySem.Challenge.rw_everduel_k21_lists_told.wellSaid = true:=by kernel_rfl
theorem chain:(chainsOk q0 && opensWell p0 && (frees PySem.Challenge.rw_everduel_k21_lists_told.row.toRowW && PySem.Challenge.rw_everduel_k21_lists_told.row.within.isEmpty)) = true:=by kernel_rfl
end Hd
end
open PySem PySem.W PyProof.Rows
set_option maxRecDepth 100000 in
set_option maxHeartbeats 0 in
theorem PySem.Challenge.cw_everduel_k21_lists_told_holds : PySem.Challenge.rw_everduel_k21_lists_told.Holds := by
  refine holds_law Hd.said fun said=>?_
  refine holds_open (r:=PySem.Challenge.rw_everduel_k21_lists_told.row) (XP:=XL Hd.q0 []) (YP:=fun w h=>∃ os,(Hd.K0 w os).In h) (fun w=>(Hd.left w).1) (fun w s e=>e▸by unfold Hd.K0; exact (Hd.left w).2) (fun w h h' ⟨os,x⟩ k=>⟨os,x.keeps k⟩) (fun s e=>xl_of s (Bool.and_eq_true_iff.mp e).1) XL.keeps (by rfl) (by rfl) (by rfl) (fun s e=>recFacts_of (Bool.and_eq_true_iff.mp e).2) (by rfl) said Hd.chain ⟨rfl,rfl,rfl,rfl,rfl,by decide +kernel⟩ ?hw ?hc
  case hw=>w_witness2
  refine Law.walk (l:=PySem.Challenge.rw_everduel_k21_lists_told) (K:=Hd.K0) rfl rfl (fun w h Y=>Y) ?F
  case F =>
    intro w os mg fa h KX G hmg
    have F:=Hd.facts w os
    exact Law.all_mk hmg
      (L2.at_mk3 KX G rfl (fun _ _ _ _ _ _ _ _ _=>rfl) F.d0.1 F.d0.2.1 F.d0.2.2.1 F.d0.2.2.2)
      (L2.at_mk4 KX G rfl (fun _ _ _ _ _ _ _ _ _ _=>rfl) F.d1.1 F.d1.2.1 F.d1.2.2.1 F.d1.2.2.2)
      (L2.at_mk2 KX G rfl (fun _ _ _ _ _ _ _ _=>rfl) F.d2.1 F.d2.2.1 F.d2.2.2.1 F.d2.2.2.2)
      (L2.at_mk1 KX G rfl (fun _ _ _ _ _ _ _=>rfl) F.d3.1 F.d3.2.1 F.d3.2.2.1 F.d3.2.2.2)
      (L2.at_mk1 KX G rfl (fun _ _ _ _ _ _ _=>rfl) F.d4.1 F.d4.2.1 F.d4.2.2.1 F.d4.2.2.2)
      (L2.at_mk3 KX G rfl (fun _ _ _ _ _ _ _ _ _=>rfl) F.d5.1 F.d5.2.1 F.d5.2.2.1 F.d5.2.2.2)
      (L2.at_mk3 KX G rfl (fun _ _ _ _ _ _ _ _ _=>rfl) F.d6.1 F.d6.2.1 F.d6.2.2.1 F.d6.2.2.2)
      (L2.at_mk4 KX G rfl (fun _ _ _ _ _ _ _ _ _ _=>rfl) F.d7.1 F.d7.2.1 F.d7.2.2.1 F.d7.2.2.2)
      (L2.at_mk3 KX G rfl (fun _ _ _ _ _ _ _ _ _=>rfl) F.d8.1 F.d8.2.1 F.d8.2.2.1 F.d8.2.2.2)
      (L2.at_mk2 KX G rfl (fun _ _ _ _ _ _ _ _=>rfl) F.d9.1 F.d9.2.1 F.d9.2.2.1 F.d9.2.2.2)
      (L2.at_mk1 KX G rfl (fun _ _ _ _ _ _ _=>rfl) F.d10.1 F.d10.2.1 F.d10.2.2.1 F.d10.2.2.2)
      (L2.at_mk3 KX G rfl (fun _ _ _ _ _ _ _ _ _=>rfl) F.d11.1 F.d11.2.1 F.d11.2.2.1 F.d11.2.2.2)
      (L2.at_mk1 KX G rfl (fun _ _ _ _ _ _ _=>rfl) F.d12.1 F.d12.2.1 F.d12.2.2.1 F.d12.2.2.2)
      (L2.at_mk1 KX G rfl (fun _ _ _ _ _ _ _=>rfl) F.d13.1 F.d13.2.1 F.d13.2.2.1 F.d13.2.2.2)
      (L2.at_mk1 KX G rfl (fun _ _ _ _ _ _ _=>rfl) F.d14.1 F.d14.2.1 F.d14.2.2.1 F.d14.2.2.2)
      (L2.at_mk1 KX G rfl (fun _ _ _ _ _ _ _=>rfl) F.d15.1 F.d15.2.1 F.d15.2.2.1 F.d15.2.2.2)
      (L2.at_mk3 KX G rfl (fun _ _ _ _ _ _ _ _ _=>rfl) F.d16.1 F.d16.2.1 F.d16.2.2.1 F.d16.2.2.2)
      (L2.at_mk2 KX G rfl (fun _ _ _ _ _ _ _ _=>rfl) F.d17.1 F.d17.2.1 F.d17.2.2.1 F.d17.2.2.2)
      (L2.at_mk1 KX G rfl (fun _ _ _ _ _ _ _=>rfl) F.d18.1 F.d18.2.1 F.d18.2.2.1 F.d18.2.2.2)
      (L2.at_mk2 KX G rfl (fun _ _ _ _ _ _ _ _=>rfl) F.d19.1 F.d19.2.1 F.d19.2.2.1 F.d19.2.2.2)
      (L2.at_mk3 KX G rfl (fun _ _ _ _ _ _ _ _ _=>rfl) F.d20.1 F.d20.2.1 F.d20.2.2.1 F.d20.2.2.2)
      (L2.at_mk2 KX G rfl (fun _ _ _ _ _ _ _ _=>rfl) F.d21.1 F.d21.2.1 F.d21.2.2.1 F.d21.2.2.2)
      (L2.at_mk2 KX G rfl (fun _ _ _ _ _ _ _ _=>rfl) F.d22.1 F.d22.2.1 F.d22.2.2.1 F.d22.2.2.2)
      (L2.at_mk3 KX G rfl (fun _ _ _ _ _ _ _ _ _=>rfl) F.d23.1 F.d23.2.1 F.d23.2.2.1 F.d23.2.2.2)
      (L2.at_mk2 KX G rfl (fun _ _ _ _ _ _ _ _=>rfl) F.d24.1 F.d24.2.1 F.d24.2.2.1 F.d24.2.2.2)
      (L2.at_mk3 KX G rfl (fun _ _ _ _ _ _ _ _ _=>rfl) F.d25.1 F.d25.2.1 F.d25.2.2.1 F.d25.2.2.2)
      (L2.at_mk5 KX G rfl (fun _ _ _ _ _ _ _ _ _ _ _=>rfl) F.d26.1 F.d26.2.1 F.d26.2.2.1 F.d26.2.2.2)
      (L2.at_mk2 KX G rfl (fun _ _ _ _ _ _ _ _=>rfl) F.d27.1 F.d27.2.1 F.d27.2.2.1 F.d27.2.2.2)
      (L2.at_mk1 KX G rfl (fun _ _ _ _ _ _ _=>rfl) F.d28.1 F.d28.2.1 F.d28.2.2.1 F.d28.2.2.2)
      (L2.at_mk1 KX G rfl (fun _ _ _ _ _ _ _=>rfl) F.d29.1 F.d29.2.1 F.d29.2.2.1 F.d29.2.2.2)
      (L2.at_mk1 KX G rfl (fun _ _ _ _ _ _ _=>rfl) F.d30.1 F.d30.2.1 F.d30.2.2.1 F.d30.2.2.2)
      (L2.at_mk2 KX G rfl (fun _ _ _ _ _ _ _ _=>rfl) F.d31.1 F.d31.2.1 F.d31.2.2.1 F.d31.2.2.2)
      (L2.at_mk2 KX G rfl (fun _ _ _ _ _ _ _ _=>rfl) F.d32.1 F.d32.2.1 F.d32.2.2.1 F.d32.2.2.2)
      (L2.at_mk3 KX G rfl (fun _ _ _ _ _ _ _ _ _=>rfl) F.d33.1 F.d33.2.1 F.d33.2.2.1 F.d33.2.2.2)
      (L2.at_mk4 KX G rfl (fun _ _ _ _ _ _ _ _ _ _=>rfl) F.d34.1 F.d34.2.1 F.d34.2.2.1 F.d34.2.2.2)
      (L2.at_mk2 KX G rfl (fun _ _ _ _ _ _ _ _=>rfl) F.d35.1 F.d35.2.1 F.d35.2.2.1 F.d35.2.2.2)
      (L2.at_mk4 KX G rfl (fun _ _ _ _ _ _ _ _ _ _=>rfl) F.d36.1 F.d36.2.1 F.d36.2.2.1 F.d36.2.2.2)
      (L2.at_mk3 KX G rfl (fun _ _ _ _ _ _ _ _ _=>rfl) F.d37.1 F.d37.2.1 F.d37.2.2.1 F.d37.2.2.2)
      (L2.at_mk4 KX G rfl (fun _ _ _ _ _ _ _ _ _ _=>rfl) F.d38.1 F.d38.2.1 F.d38.2.2.1 F.d38.2.2.2)
      (L2.at_mk1 KX G rfl (fun _ _ _ _ _ _ _=>rfl) F.d39.1 F.d39.2.1 F.d39.2.2.1 F.d39.2.2.2)
      (PySem.W.mg_none_of KX G F.z0)
      (PySem.W.mg_none_of KX G F.z1)
      (PySem.W.mg_none_of KX G F.z2)
      (PySem.W.mg_none_of KX G F.z3)
      (PySem.W.mg_none_of KX G F.z4)
      (PySem.W.mg_none_of KX G F.z5)
      (PySem.W.mg_none_of KX G F.z6)
      (PySem.W.mg_none_of KX G F.z7)
      (PySem.W.mg_none_of KX G F.z8)
      (PySem.W.mg_none_of KX G F.z9)
      (PySem.W.mg_none_of KX G F.z10)
      (PySem.W.mg_none_of KX G F.z11)
      (PySem.W.mg_none_of KX G F.z12)
      (PySem.W.mg_none_of KX G F.z13)
      (L2.ct_u F.c0 KX G)
      ⟨_,PySem.W.mg_of KX G F.e0.1,L2.kd_mk F.e0.2.1 rfl F.e0.2.2.1 F.e0.2.2.2.1 F.e0.2.2.2.2 (by decide +kernel)⟩
      ⟨_,PySem.W.mg_of KX G F.e1.1,L2.kd_mk F.e1.2.1 rfl F.e1.2.2.1 F.e1.2.2.2.1 F.e1.2.2.2.2 (by decide +kernel)⟩
      (L2.int_mk KX G F.x1)
      ⟨_,PySem.W.mg_of KX G F.x2⟩
