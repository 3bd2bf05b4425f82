import PyProof.Rows.All
import Wide.All
import OpenK.AllK
import Wide.FinOn
import PyProof.EqAt
import PyProof.EqKinds
import PyProof.TupleCall
import PyProof.CompFree
import PyProof.CompUse
import PyProof.ListMulRoad
import PyProof.Rows.EnumRows
import PyProof.ZipIter
import PyProof.Rows.Range3
import KE.KRevIter
import PyProof.RaisesMany
import PyProof.Rows.TopTwo
import PyProof.Rows.CatchOwn
import OpenK.KOwn
import KE.KIsAll
import PyProof.ExcAttrAll.ValueError
import PyProof.StrBlockH
import PyProof.Rows.StrWeight2
import KE.KMinBuiltin
import PyProof.Rows.CallKwBuiltin
import PyProof.StrCalls2
import PyProof.Rows.StrNews2
import PyProof.Rows.StrItems
import PyProof.StrLawsOccR
import PyProof.StrLawsTight
import KE.KIntText
import Lean
import PySem.Challenge.RW_primefold_k03_whole_read
-- CHANGE: your row's module here,as the last of these rows
set_option bootstrap.genMatcherCode false
set_option Elab.async false
set_option linter.all false
set_option maxRecDepth 100000
namespace L2
open PySem PySem.Spec PyProof.Rows
noncomputable abbrev Key:=Sum Int Str
noncomputable def keyIs:Key→Value→Bool
  | .inl k,v=>Value.isInt k v
  | .inr x,v=>Value.isStrOf x v
noncomputable def keyH (w:World):Key→Int
  | .inl k=>hashInt k
  | .inr x=>hashStr w x
theorem keyIs_shape:∀ {k:Key} {v:Value},keyIs k v=true→(∃ i t,k=Sum.inl i∧v=Value.int i t)∨(∃ x t,k=Sum.inr x∧v=Value.str x t)
  | .inl i,v,h=>by
    obtain ⟨t,e⟩:=Value.isInt_shape (k:=i) (v:=v) h
    exact .inl ⟨i,t,rfl,e⟩
  | .inr x,v,h=>by
    obtain ⟨t,e⟩:=Value.isStrOf_shape (x:=x) (v:=v) h
    exact .inr ⟨x,t,rfl,e⟩
theorem keyIs_int (i:Int) (t:Tok):keyIs (.inl i) (.int i t)=true:=by simp [keyIs,Value.isInt]
theorem keyIs_str (x:Str) (t:Tok):keyIs (.inr x) (.str x t)=true:=by simp [keyIs,Value.isStrOf]
theorem key_ll (a b:Int):decide ((Sum.inl a:Key)=Sum.inl b)=(a == b):=by
  by_cases e:a=b
  · subst e; simp
  · have h:¬ (Sum.inl a:Key)=Sum.inl b:=fun q=>e (Sum.inl.inj q)
    rw [decide_eq_false h]
    exact (beq_eq_false_iff_ne.mpr e).symm
theorem key_rr (a b:Str):decide ((Sum.inr a:Key)=Sum.inr b)=decide (a=b):=by
  by_cases e:a=b
  · subst e; simp
  · have h:¬ (Sum.inr a:Key)=Sum.inr b:=fun q=>e (Sum.inr.inj q)
    rw [decide_eq_false h,decide_eq_false e]
theorem key_lr (a:Int) (b:Str):decide ((Sum.inl a:Key)=Sum.inr b)=false:=decide_eq_false (fun q=>nomatch q)
theorem key_rl (a:Str) (b:Int):decide ((Sum.inr a:Key)=Sum.inl b)=false:=decide_eq_false (fun q=>nomatch q)
noncomputable def mixKind (prog:Program) (w:World):PySem.KeyKind prog w Key where
  is:=keyIs
  hash:=keyH w
  inj:=fun v a b ha hb=>by
    rcases keyIs_shape ha with ⟨i,t,rfl,rfl⟩ | ⟨x,t,rfl,rfl⟩
    · rcases keyIs_shape hb with ⟨j,u,rfl,e⟩ | ⟨y,u,rfl,e⟩
      · injection e with e1 _; rw [e1]
      · exact nomatch e
    · rcases keyIs_shape hb with ⟨j,u,rfl,e⟩ | ⟨y,u,rfl,e⟩
      · exact nomatch e
      · injection e with e1 _; rw [e1]
  byValue:=fun k v h=>by
    rcases keyIs_shape h with ⟨i,t,rfl,rfl⟩ | ⟨x,t,rfl,rfl⟩ <;> rfl
  pyHash:=fun hv h=>by
    rcases keyIs_shape hv with ⟨i,t,rfl,rfl⟩ | ⟨x,t,rfl,rfl⟩
    · exact wpAny_pyHash_int h
    · exact wpAny_pyHash_str h
  eqBool:=fun hu hv h=>by
    rcases keyIs_shape hu with ⟨i,t,rfl,rfl⟩ | ⟨x,t,rfl,rfl⟩
    · rcases keyIs_shape hv with ⟨j,u,rfl,rfl⟩ | ⟨y,u,rfl,rfl⟩
      · rw [key_ll] at h; exact wpAny_eqBool_int h
      · rw [key_lr] at h; exact SeqAt.EqAt.int_str i t y u _ _ _ _ h
    · rcases keyIs_shape hv with ⟨j,u,rfl,rfl⟩ | ⟨y,u,rfl,rfl⟩
      · rw [key_rl] at h; exact SeqAt.EqAt.str_int x t j u _ _ _ _ h
      · rw [key_rr] at h; exact wpAny_eqBool_str h
  «strs»:=fun k x t v h=>by
    rcases keyIs_shape h with ⟨i,u,rfl,e⟩ | ⟨y,u,rfl,e⟩
    · exact nomatch e
    · injection e with e1 _
      subst e1
      cases v <;> rfl
theorem mixKind_int (prog:Program) (w:World) (i:Int) (t:Tok):(mixKind prog w).is (.inl i) (.int i t)=true:=keyIs_int i t
theorem mixKind_str (prog:Program) (w:World) (x:Str) (t:Tok):(mixKind prog w).is (.inr x) (.str x t)=true:=keyIs_str x t
end L2
namespace L2
open PySem PySem.Spec PyProof.Rows
inductive V where
  | non | bl (b:Bool) | int (i:Int) | str (x:Str) | byt (b:Array UInt8) | flt (b:UInt64) | ref (a:Addr) | ty (n:String)
  deriving DecidableEq
noncomputable def RelV:V→Value→Prop
  | .non,u=>u=Value.none
  | .bl b,u=>u=Value.bool b
  | .int i,u=>∃ t,u=Value.int i t
  | .str x,u=>∃ t,u=Value.str x t
  | .byt b,u=>∃ t,u=Value.bytes b t
  | .flt b,u=>∃ t,u=Value.float b t
  | .ref a,u=>u=Value.ref a
  | .ty n,u=>u=Value.type n
noncomputable abbrev Vals:List V→List Value→Prop:=Paired RelV
theorem Vals.length {xs:List V} {us:List Value} (r:Vals xs us):xs.length=us.length:=Paired.length r
theorem Vals.get:∀ {xs:List V} {us:List Value} {i:Nat} {x:V},Vals xs us→xs[i]?=some x→∃ u,us[i]?=some u∧RelV x u
  | _,_,_,_,.nil,e=>by simp at e
  | _,_,0,_,.cons r _,e=>by simp at e; subst e; exact ⟨_,rfl,r⟩
  | _,_,i + 1,x,.cons _ t,e=>by
    obtain ⟨u,h1,h2⟩:=Vals.get (i:=i) (x:=x) t (by simpa using e)
    exact ⟨u,by simpa using h1,h2⟩
theorem Vals.set {x:V} {u:Value} (r:RelV x u):∀ {xs:List V} {us:List Value} (i:Nat),Vals xs us→Vals (xs.set i x) (us.set i u)
  | _,_,_,.nil=>.nil
  | _,_,0,.cons _ t=>.cons r t
  | _,_,i + 1,.cons q t=>.cons q (Vals.set r i t)
theorem Vals.append:∀ {xs ys:List V} {us ws:List Value},Vals xs us→Vals ys ws→Vals (xs ++ ys) (us ++ ws)
  | _,_,_,_,.nil,s=>s
  | _,_,_,_,.cons r t,s=>.cons r (Vals.append t s)
theorem Vals.take:∀ {xs:List V} {us:List Value} (n:Nat),Vals xs us→Vals (xs.take n) (us.take n)
  | _,_,0,_=>.nil
  | _,_,_ + 1,.nil=>.nil
  | _,_,n + 1,.cons r t=>.cons r (Vals.take n t)
theorem Vals.drop:∀ {xs:List V} {us:List Value} (n:Nat),Vals xs us→Vals (xs.drop n) (us.drop n)
  | _,_,0,r=>r
  | _,_,_ + 1,.nil=>.nil
  | _,_,n + 1,.cons _ t=>Vals.drop n t
noncomputable def RelO:Option V→Option Value→Prop
  | some v,some u=>RelV v u
  | none,none=>True
  | _,_=>False
noncomputable def KV {κ:Type}:List (κ × V)→List (κ × Value)→Prop:=Paired fun (p:κ × V) (q:κ × Value)=>p.1=q.1∧RelV p.2 q.2
noncomputable def kV:Key→V
  | .inl i=>.int i
  | .inr x=>.str x
inductive HO where
  | lst (xs:List V)
  | tup (xs:List V)
  | dK (kvs:List (Key × V)) | dT (kvs:List (List Key × V))
  | set (S:Int→Bool) (n:Nat)
  | ins (C dx:Addr) (fs:List (Str × V))
  | own (x:Addr)
  | xd (fs:List (Str × V))
  | met (f x:Addr)
  | rng (lo hi:Int)
  | frz (o:Obj) (u:HO)
  | tbl (ps:Array Value)
  | ext (φ:Heap→Prop)
noncomputable abbrev Hp:=Addr→Option HO
noncomputable def upd (H:Hp) (a:Addr) (o:HO):Hp:=fun b=>if b=a then some o else H b
theorem upd_same {H:Hp} {a:Addr} {o:HO}:upd H a o a=some o:=by unfold upd; rw [if_pos rfl]
theorem upd_ne {H:Hp} {a b:Addr} {o:HO} (h:b ≠ a):upd H a o b=H b:=by unfold upd; rw [if_neg h]
theorem ne_of {H:Hp} {a b:Addr} {o u:HO} (h:H a=some o) (h':H b=some u) (d:o ≠ u):a ≠ b:=by
  intro e; subst e; rw [h] at h'; exact d (Option.some.inj h')
theorem ne_of_none {H:Hp} {a b:Addr} {o:HO} (h:H a=some o) (h':H b=none):a ≠ b:=by
  intro e; subst e; rw [h] at h'; cases h'
section
variable (P:Program) (w:World)
noncomputable def ObjOk (H:Hp) (h:Heap) (a:Addr):HO→Prop
  | .lst xs=>xs.length ≤ sizeLine∧∃ (its:List Value) (n:Nat),Vals xs its∧h.get? a=some { cls:=.type "list",data:=.seq its.toArray n }
  | .tup xs=>xs.length ≤ sizeLine∧∃ its:List Value,Vals xs its∧IsTup h a its.toArray
  | .dK kvs=>kvs.length ≤ sizeLine∧(a == sysModules)=false∧∃ vs,KV kvs vs∧h.DictOf (mixKind P w) a vs
  | .dT kvs=>kvs.length ≤ sizeLine∧(a == sysModules)=false∧∃ xs:List (List Key × Addr × Value),
      Paired (fun (p:List Key × V) (q:List Key × Addr × Value)=>p.1=q.1∧H q.2.1=some (.tup (p.1.map kV))∧RelV p.2 q.2.2) kvs xs∧
      ∃ o es ep,h.get? a=some o∧o.ExactDict∧o.data=.dict es ep∧es.toList=xs.map (entryOfKey (tupleKind (mixKind P w)))∧(xs.map (·.1)).Nodup
  | .set S n=>h.SetOf (intKind P w) a S n
  | .ins C dx fs=>H dx=some (.own a)∧fs.length ≤ 1000∧dx ≠ a∧h.get? a=some (PySem.W.instObj C dx)∧
      ∃ mA,h.Ns1 dx mA∧(∀ f,RelO (fs.lookup f) (mA f))∧PySem.Within mA (fs.map (·.1))
  | .own _=>∃ o,h.get? a=some o
  | .xd fs=>∃ mA,h.Ns1 a mA∧∀ f,RelO (fs.lookup f) (mA f)
  | .rng lo hi=>∃ t u v,h.get? a=some { cls:=.type "range",data:=.fields #[.int lo t,.int hi u,.int 1 v] }
  | .frz o u=>h.get? a=some o∧ObjOk H h a u
  | .tbl ps=>h.get? a=some { cls:=.none,data:=.fields ps }
  | .met f x=>h.get? a=some (PySem.W.methodObj (.ref f) (.ref x))
  | .ext φ=>φ h∧(∃ o,h.get? a=some o)∧∀ h1 h2:Heap,φ h1→(∀ o,h1.get? a=some o→h2.get? a=some o)→φ h2
noncomputable def HOk (H:Hp) (h:Heap):Prop:=∀ a o,H a=some o→ObjOk P w H h a o
end
section
variable {P:Program} {w:World} {H H':Hp} {h h':Heap} {a:Addr} {o:HO}
theorem ObjOk.lt (x:ObjOk P w H h a o):a < h.objs.size:=by
  cases o with
  | lst xs=>obtain ⟨_,_,_,_,e⟩:=x; exact Heap.lt_size e
  | tup xs=>obtain ⟨_,_,_,p⟩:=x; exact p.lt
  | dK kvs=>obtain ⟨_,_,_,_,o,_,_,e,_⟩:=x; exact Heap.lt_size e
  | dT kvs=>obtain ⟨_,_,_,_,o,_,_,e,_⟩:=x; exact Heap.lt_size e
  | set S n=>obtain ⟨o,_,_,_,e,_⟩:=x; exact Heap.lt_size e
  | ins C dx fs=>obtain ⟨_,_,_,e,_⟩:=x; exact Heap.lt_size e
  | own y=>obtain ⟨_,e⟩:=x; exact Heap.lt_size e
  | xd fs=>obtain ⟨_,⟨_,_,_,e,_⟩,_⟩:=x; exact Heap.lt_size e
  | rng lo hi=>obtain ⟨_,_,_,e⟩:=x; exact Heap.lt_size e
  | frz ob u=>obtain ⟨e,_⟩:=x; exact Heap.lt_size e
  | tbl ps=>exact Heap.lt_size (show h.get? a=some _ from x)
  | met f y=>exact Heap.lt_size (show h.get? a=some _ from x)
  | ext φ=>obtain ⟨_,⟨_,e⟩,_⟩:=x; exact Heap.lt_size e
theorem Paired.mapP {α β:Type} {F G:α→β→Prop}:∀ {l₁:List α} {l₂:List β},Paired F l₁ l₂→(∀ a b,F a b→G a b)→Paired G l₁ l₂
  | _,_,.nil,_=>.nil
  | _,_,.cons r t,f=>.cons (f _ _ r) (Paired.mapP t f)
theorem ObjOk.stay (x:ObjOk P w H h a o) (k:∀ b u,(b=a∨H b=some (.own a))→h.get? b=some u→h'.get? b=some u)
    (ho:∀ b,H b=some (.own a)→H' b=some (.own a)) (ht:∀ b xs,H b=some (.tup xs)→H' b=some (.tup xs)):ObjOk P w H' h' a o:=by
  induction o with
  | lst xs=>obtain ⟨z,its,n,r,e⟩:=x; exact ⟨z,its,n,r,k _ _ (.inl rfl) e⟩
  | tup xs=>obtain ⟨z,its,r,ob,e,c⟩:=x; exact ⟨z,its,r,ob,k _ _ (.inl rfl) e,c⟩
  | dK kvs=>obtain ⟨z,y,vs,r,ob,es,ep,e,c⟩:=x; exact ⟨z,y,vs,r,ob,es,ep,k _ _ (.inl rfl) e,c⟩
  | dT kvs=>
    obtain ⟨z,y,xs,r,ob,es,ep,e,c⟩:=x
    exact ⟨z,y,xs,Paired.mapP r fun p q z=>⟨z.1,ht _ _ z.2.1,z.2.2⟩,ob,es,ep,k _ _ (.inl rfl) e,c⟩
  | set S n=>obtain ⟨ob,es,ep,t,e,c⟩:=x; exact ⟨ob,es,ep,t,k _ _ (.inl rfl) e,c⟩
  | ins C dx fs=>
    obtain ⟨d,z,ne,e,mA,⟨od,es,ep,e2,c⟩,r⟩:=x
    exact ⟨ho _ d,z,ne,k _ _ (.inl rfl) e,mA,⟨od,es,ep,k _ _ (.inr d) e2,c⟩,r⟩
  | own y=>obtain ⟨ob,e⟩:=x; exact ⟨ob,k _ _ (.inl rfl) e⟩
  | xd fs=>obtain ⟨mA,⟨od,es,ep,e,c⟩,r⟩:=x; exact ⟨mA,⟨od,es,ep,k _ _ (.inl rfl) e,c⟩,r⟩
  | rng lo hi=>obtain ⟨t,u,v,e⟩:=x; exact ⟨t,u,v,k _ _ (.inl rfl) e⟩
  | frz ob u ih=>obtain ⟨e,q⟩:=x; exact ⟨k _ _ (.inl rfl) e,ih q⟩
  | tbl ps=>
    have e:h.get? a=some { cls:=.none,data:=.fields ps }:=x
    show h'.get? a=some { cls:=.none,data:=.fields ps }
    exact k a _ (.inl rfl) e
  | met f y=>
    have e:h.get? a=some (PySem.W.methodObj (.ref f) (.ref y)):=x
    show h'.get? a=some (PySem.W.methodObj (.ref f) (.ref y))
    exact k a _ (.inl rfl) e
  | ext φ=>obtain ⟨p,⟨o,e⟩,st⟩:=x; exact ⟨st _ _ p fun o q=>k _ _ (.inl rfl) q,⟨o,k _ _ (.inl rfl) e⟩,st⟩
theorem HOk.lt (x:HOk P w H h) (e:H a=some o):a < h.objs.size:=(x a o e).lt
theorem HOk.fresh (x:HOk P w H h) (e:h.objs.size ≤ a):H a=none:=by
  cases q:H a with
  | none=>rfl
  | some u=>exact absurd (Nat.lt_of_lt_of_le (x.lt q) e) (Nat.lt_irrefl _)
theorem HOk.kept (x:HOk P w H h) (k:∀ b u,h.get? b=some u→h'.get? b=some u):HOk P w H h':=fun a o e=>
  (x a o e).stay (fun b u _ q=>k b u q) (fun _ q=>q) fun _ _ q=>q
theorem HOk.laid (x:HOk P w H h) (k:∀ b u,h.get? b=some u→h'.get? b=some u) (hp:h.objs.size ≤ a) (new:ObjOk P w (upd H a o) h' a o):HOk P w (upd H a o) h':=fun b u e=>by
  have hn:=x.fresh hp
  by_cases hb:b=a
  · subst hb; rw [upd_same] at e; cases e; exact new
  · rw [upd_ne hb] at e
    exact (x b u e).stay (fun c v _ q=>k c v q) (fun c q=>by rw [upd_ne (ne_of_none q hn)]; exact q) fun c xs q=>by rw [upd_ne (ne_of_none q hn)]; exact q
end
noncomputable def Rd (H:Hp) (a:Addr) (u:HO):Prop:=H a=some u∨∃ o,H a=some (.frz o u)
theorem Rd.ok {P:Program} {w:World} {H:Hp} {h:Heap} {a:Addr} {u:HO} (r:Rd H a u) (x:HOk P w H h):ObjOk P w H h a u:=by
  rcases r with r | ⟨o,r⟩
  · exact x a u r
  · obtain ⟨_,q⟩:=x a _ r
    exact q
noncomputable def Mut:Option HO→Prop
  | some (.lst _)=>True
  | some (.dK _)=>True
  | some (.dT _)=>True
  | some (.set _ _)=>True
  | some (.ins _ _ _)=>True
  | some (.ext _)=>True
  | _=>False
section
variable {P:Program} {w:World} {H:Hp} {h h':Heap} {x e:Addr} {o':HO}
theorem HOk.write (ok:HOk P w H h) (mu:Mut (H x)) (he:e=x∨H e=some (.own x)) (k:∀ b u,b ≠ e→h.get? b=some u→h'.get? b=some u) (heo:∃ u,h'.get? e=some u)
    (new:ObjOk P w (upd H x o') h' x o'):HOk P w (upd H x o') h':=fun b u q=>by
  have nown:∀ c y,H c=some (.own y)→c ≠ x:=fun c y r z=>by subst z; rw [r] at mu; exact mu
  have ntup:∀ c xs,H c=some (.tup xs)→c ≠ x:=fun c xs r z=>by subst z; rw [r] at mu; exact mu
  by_cases hb:b=x
  · subst hb; rw [upd_same] at q; cases q; exact new
  · rw [upd_ne hb] at q
    by_cases hbe:b=e
    · have q':H b=some (.own x):=by
        rcases he with z | z
        · exact absurd (hbe.trans z) hb
        · rw [hbe]; exact z
      rw [q] at q'; cases q'
      obtain ⟨v,hv⟩:=heo
      exact ⟨v,by rw [hbe]; exact hv⟩
    · refine (ok b u q).stay (fun c v hc r=>k c v ?_ r) (fun c r=>by rw [upd_ne (nown c b r)]; exact r) fun c xs r=>by rw [upd_ne (ntup c xs r)]; exact r
      rcases hc with rfl | hc
      · exact hbe
      · rintro rfl
        rcases he with z | z
        · exact nown c b hc z
        · rw [hc] at z; cases z; exact hb rfl
end
structure Un (fs ex:List Addr) (H H':Hp) (h h':Heap):Prop where
  keep:∀ b o,h.get? b=some o→H b=none→b ∉ fs→b ∉ ex→h'.get? b=some o
  slot:∀ b o,h.get? b=some o→H b=none→b ∈ fs→b ∉ ex→∃ sl,h'.get? b=some { o with slots:=sl }
  free:∀ b o,h.get? b=some o→H b=none→b ∉ ex→H' b=none
  there:∀ b o,h.get? b=some o→b ∉ ex→∃ o',h'.get? b=some o'
  tups:∀ b xs,H b=some (.tup xs)→H' b=some (.tup xs)
  frzs:∀ b o u,H b=some (.frz o u)→H' b=some (.frz o u)
  tbls:∀ b ps,H b=some (.tbl ps)→∃ more,H' b=some (.tbl (ps ++ more))
section
variable {fs fs' ex ex':List Addr} {H H1 H2:Hp} {h h1 h2 h':Heap} {a x e:Addr} {o:HO}
theorem Un.any (u:Un fs ex H H1 h h1) {b:Addr} {ob:Obj} (q:h.get? b=some ob) (n:H b=none) (hx:b ∉ ex):∃ sl,h1.get? b=some { ob with slots:=sl }:=by
  by_cases hb:b ∈ fs
  · exact u.slot b ob q n hb hx
  · exact ⟨ob.slots,u.keep b ob q n hb hx⟩
theorem Un.trans (a:Un fs ex H H1 h h1) (b:Un fs ex H1 H2 h1 h2):Un fs ex H H2 h h2 where
  keep:=fun c ob q n hc hx=>b.keep c ob (a.keep c ob q n hc hx) (a.free c ob q n hx) hc hx
  slot:=fun c ob q n hc hx=>by
    obtain ⟨sl,e1⟩:=a.slot c ob q n hc hx
    obtain ⟨sl',e2⟩:=b.slot c _ e1 (a.free c ob q n hx) hc hx
    exact ⟨sl',e2⟩
  free:=fun c ob q n hx=>by
    obtain ⟨o',e1⟩:=a.there c ob q hx
    exact b.free c o' e1 (a.free c ob q n hx) hx
  there:=fun c ob q hx=>by
    obtain ⟨o',e1⟩:=a.there c ob q hx
    exact b.there c o' e1 hx
  tups:=fun c xs q=>b.tups c xs (a.tups c xs q)
  frzs:=fun c ob xs q=>b.frzs c ob xs (a.frzs c ob xs q)
  tbls:=fun c ps q=>by
    obtain ⟨m1,e1⟩:=a.tbls c ps q
    obtain ⟨m2,e2⟩:=b.tbls c _ e1
    exact ⟨m1 ++ m2,by rw [e2,Array.append_assoc]⟩
theorem Un.kept (k:∀ b u,h.get? b=some u→h'.get? b=some u):Un fs ex H H h h':=
  ⟨fun b ob q _ _ _=>k b ob q,fun b ob q _ _ _=>⟨ob.slots,k b ob q⟩,fun _ _ _ n _=>n,fun b ob q _=>⟨ob,k b ob q⟩,fun _ _ q=>q,fun _ _ _ q=>q,fun _ ps q=>⟨#[],by rw [q]; simp⟩⟩
theorem Un.refl:Un fs ex H H h h:=Un.kept fun _ _ q=>q
theorem Un.laid (k:∀ b u,h.get? b=some u→h'.get? b=some u) (hp:h.objs.size ≤ a) (hn:H a=none):Un fs ex H (upd H a o) h h' where
  keep:=fun b u q _ _ _=>k b u q
  slot:=fun b u q _ _ _=>⟨u.slots,k b u q⟩
  free:=fun b u q n _=>by rw [upd_ne (Nat.ne_of_lt (Nat.lt_of_lt_of_le (Heap.lt_size q) hp))]; exact n
  there:=fun b u q _=>⟨u,k b u q⟩
  tups:=fun b xs q=>by rw [upd_ne (ne_of_none q hn)]; exact q
  frzs:=fun b u xs q=>by rw [upd_ne (ne_of_none q hn)]; exact q
  tbls:=fun b ps q=>⟨#[],by rw [upd_ne (ne_of_none q hn),q]; simp⟩
theorem Un.write (mu:Mut (H x)) (he:e=x∨H e=some (.own x)) (k:∀ b u,b ≠ e→h.get? b=some u→h'.get? b=some u) (heo:∃ u,h'.get? e=some u):Un fs ex H (upd H x o) h h':=by
  have hx:∀ b,H b=none→b ≠ x:=fun b n z=>by subst z; rw [n] at mu; exact mu
  have hb:∀ b,H b=none→b ≠ e:=fun b n z=>by
    subst z
    rcases he with r | r
    · exact hx b n r
    · rw [n] at r; cases r
  have hm:∀ b u,H b=some u→¬ Mut (some u)→b ≠ x:=fun b u q nm z=>by subst z; rw [q] at mu; exact nm mu
  refine ⟨fun b u q n _ _=>k b u (hb b n) q,fun b u q n _ _=>⟨u.slots,k b u (hb b n) q⟩,fun b u q n _=>by rw [upd_ne (hx b n)]; exact n,fun b u q _=>?_,
    fun b xs q=>by rw [upd_ne (hm b _ q fun z=>z)]; exact q,fun b u xs q=>by rw [upd_ne (hm b _ q fun z=>z)]; exact q,fun b ps q=>⟨#[],by rw [upd_ne (hm b _ q fun z=>z),q]; simp⟩⟩
  by_cases hbe:b=e
  · subst hbe; exact heo
  · exact ⟨u,k b u hbe q⟩
end
noncomputable def trk (h:Heap) (H:Hp):List Addr:=(List.range h.objs.size).filter fun a=>(H a).isSome
noncomputable def hidT (h:Heap) (H:Hp):Heap:=PySem.W.hideAll h (trk h H)
theorem hidT_size (h:Heap) (H:Hp):(hidT h H).objs.size=h.objs.size:=PySem.W.hideAll_size _ _
theorem hidT_get {h:Heap} {H:Hp} {b:Addr} {o:Obj} (e:h.get? b=some o) (n:H b=none):(hidT h H).get? b=some o:=
  PySem.W.hideAll_get _ e fun hm=>by
    have q:(H b).isSome=true:=(List.mem_filter.mp hm).2
    rw [n] at q; simp at q
theorem of_hidT {h:Heap} {H:Hp} {b:Addr} {o:Obj} (e:(hidT h H).get? b=some o):h.get? b=some o∧H b=none:=by
  have e':h.get? b=some o:=PySem.W.of_hideAll (trk h H) e
  refine ⟨e',?_⟩
  cases q:H b with
  | none=>rfl
  | some x=>
    have hm:b ∈ trk h H:=List.mem_filter.mpr ⟨List.mem_range.mpr (Heap.lt_size e'),by simp [q]⟩
    have z:(hidT h H).get? b=none:=PySem.W.hideAll_none (trk h H) hm
    rw [z] at e; cases e
noncomputable def allNews (g h:Heap) (L:Addr):List (Addr × Obj):=(List.range h.objs.size).filterMap fun a=>if a=L∨(g.get? a).isSome=true then none else (h.get? a).map fun o=>(a,o)
noncomputable def rest (g h:Heap) (L d:Addr):List (Addr × Obj):=(allNews g h L).filter fun p=>decide (p.1 ≠ d)
end L2
namespace L2
open PySem PySem.Spec PyProof.Rows
structure Mod (K:PySem.W.Frag) (mg:Str→Option Value) (base:Heap):Prop where
  kin:K.In base
  glob:base.Ns mainGlobals mg
  blt:∃ mb,base.Ns builtinsNs mb∧∀ x:Str,x ≠ "__name__" → mb x=bootBuiltins x
  nolimit:base.NoLimit
structure Cx where
  prog:Program
  w:World
  K:PySem.W.Frag
  mg:Str→Option Value
  base:Heap
  A:Around
  N:List Str
  s₀:Shared
  H₀:Hp
  env:Env
  outer:List Env
  stack:List Env
  ex:List Addr
  fn:Str→Bool
  calm:Bool
  pn:List (Addr × Obj)
  xe:Value→Shared→Prop
noncomputable def frs (l:List Env):List Addr:=l.filterMap (·.frame)
noncomputable abbrev Cx.fs (X:Cx):List Addr:=frs X.outer
noncomputable def Vis (sc:Scope) (x:Str):Prop:=sc.names.lookup x=some .local∨sc.names.lookup x=some .cell∨sc.names.lookup x=some .free
noncomputable def Loc (sc:Scope) (x:Str):Prop:=sc.names.lookup x=some .local∨sc.names.lookup x=some .cell
noncomputable def Look (env:Env) (h:Heap) (m:Str→Option Value) (x:Str) (u:Value):Prop:=
  (env.kindOf x=some .local∧m x=some u)∨((env.kindOf x=some .cell∨env.kindOf x=some .free)∧∃ c,env.cells.lookup x=some c∧h.IsCell c (some u))
structure Cx.Ok (X:Cx):Prop where
  mod:Mod X.K X.mg X.base
  kind:X.env.scope.kind=.function
  glob:X.env.globals=mainGlobals
  blt:X.env.builtins=builtinsNs
  above:X.s₀.heap.objs.size ≤ X.env.locals
  inj:∀ x y c,X.env.cells.lookup x=some c→X.env.cells.lookup y=some c→x=y
  has:∀ x,(X.env.kindOf x=some .cell∨X.env.kindOf x=some .free)→∃ c,X.env.cells.lookup x=some c
  cab:∀ x c,X.fn x=true→X.env.cells.lookup x=some c→X.s₀.heap.objs.size ≤ c
  hd:X.calm=true→X.A.handled=none
  frames:X.A.frames=some X.stack
  stk:X.stack=X.outer∨(X.stack=X.env :: X.outer∧X.env.frame=some X.env.locals)
  exf:∀ b ∈ X.ex,b ≠ X.env.locals∧∀ x c,X.env.cells.lookup x=some c→c ≠ b
  bs:∀ b o,X.base.get? b=some o→X.s₀.heap.get? b=some o∧X.H₀ b=none
  bsz:X.base.objs.size ≤ X.s₀.heap.objs.size
  noex:∀ b o,X.base.get? b=some o→b ∉ X.ex
  exfs:∀ b ∈ X.ex,b ∉ X.fs
  funs:X.s₀.heap.FunFrames X.base X.outer
  frf:∀ b ∈ X.fs,X.H₀ b=none
structure Inv (X:Cx) (pins:List (Addr × Obj)) (σ:List (Option V)) (H:Hp) (s:Shared):Prop where
  ok:X.Ok
  os:s.os=X.s₀.os
  bare:AllBare s.gens
  base:Un X.fs X.ex X.H₀ H X.s₀.heap s.heap
  loc:∃ m,s.heap.Ns X.env.locals m∧∀ (i:Nat) (x:Str) (v:V),X.N[i]?=some x→σ[i]?=some (some v)→Vis X.env.scope x→∃ u,RelV v u∧Look X.env s.heap m x u
  cell:∀ x c,X.env.cells.lookup x=some c→∃ v,s.heap.IsCell c v
  free:H X.env.locals=none
  freeC:∀ x c,X.env.cells.lookup x=some c→H c=none
  pin:∀ p ∈ X.pn ++ pins,s.heap.get? p.1=some p.2∧H p.1=none∧p.1 ≠ X.env.locals∧p.1 ∉ X.fs∧∀ v,p.2.data ≠ .cell v
  hok:HOk X.prog X.w H s.heap
  len:σ.length=X.N.length
section
variable {X:Cx} {pins:List (Addr × Obj)} {σ:List (Option V)} {H H':Hp} {s:Shared} {h':Heap}
theorem Cx.Ok.nofr (ok:X.Ok) {b:Addr} {o:Obj} (e:X.base.get? b=some o):b ∉ X.fs:=fun hb=>by
  have:=(ok.funs.mem hb).1
  rw [e] at this; cases this
theorem Inv.bs (I:Inv X pins σ H s):∀ b o,X.base.get? b=some o→s.heap.get? b=some o∧H b=none:=fun b o e=>
  ⟨I.base.keep b o (I.ok.bs b o e).1 (I.ok.bs b o e).2 (I.ok.nofr e) (I.ok.noex b o e),I.base.free b o (I.ok.bs b o e).1 (I.ok.bs b o e).2 (I.ok.noex b o e)⟩
theorem Inv.bk (I:Inv X pins σ H s):∀ b o,X.base.get? b=some o→s.heap.get? b=some o:=fun b o e=>(I.bs b o e).1
theorem Inv.mod (I:Inv X pins σ H s):Mod X.K X.mg X.base:=I.ok.mod
theorem Inv.kIn (I:Inv X pins σ H s):X.K.In s.heap:=I.ok.mod.kin.keeps I.bk
theorem Inv.lt (I:Inv X pins σ H s):X.env.locals < s.heap.objs.size:=let ⟨_,hn,_⟩:=I.loc; hn.lt
theorem Inv.sz (I:Inv X pins σ H s):X.s₀.heap.objs.size ≤ s.heap.objs.size:=Nat.le_trans I.ok.above (Nat.le_of_lt I.lt)
theorem Inv.nofs (I:Inv X pins σ H s) {a:Addr} (h:s.heap.objs.size ≤ a):a ∉ X.fs:=fun hb=>by
  obtain ⟨_,o,ho,_⟩:=I.ok.funs.mem hb
  exact absurd (Nat.lt_of_lt_of_le (Heap.lt_size ho) (Nat.le_trans I.sz h)) (Nat.lt_irrefl _)
theorem Inv.cne (I:Inv X pins σ H s):∀ x c,X.env.cells.lookup x=some c→c ≠ X.env.locals:=fun x c e z=>by
  obtain ⟨v,o,ho,hd⟩:=I.cell x c e
  obtain ⟨m,⟨o',es,ep,ho',hd',_⟩,_⟩:=I.loc
  rw [z,ho'] at ho; cases ho; rw [hd'] at hd; cases hd
theorem Inv.funs (I:Inv X pins σ H s):s.heap.FunFrames X.base X.outer:=by
  have all:∀ (l:List Env),(∀ b ∈ frs l,b ∈ X.fs)→X.s₀.heap.FunFrames X.base l→s.heap.FunFrames X.base l:=by
    intro l
    induction l with
    | nil=>intro _ _; trivial
    | cons env r ih=>
      intro hs hl
      obtain ⟨hk,⟨L,o,hf,hn,ho,hd⟩,hr⟩:=hl
      have hL:L ∈ X.fs:=hs L (by unfold frs; rw [List.filterMap_cons,hf]; exact List.mem_cons_self)
      obtain ⟨sl,e⟩:=I.base.slot L o ho (I.ok.frf L hL) hL fun z=>I.ok.exfs L z hL
      exact ⟨hk,⟨L,_,hf,hn,e,hd⟩,ih (fun b hb=>hs b (by unfold frs; rw [List.filterMap_cons,hf]; exact List.mem_cons_of_mem _ hb)) hr⟩
  exact all X.outer (fun _ hb=>hb) I.ok.funs
theorem Inv.stack (I:Inv X pins σ H s):s.heap.FunFrames X.base X.stack:=by
  rcases I.ok.stk with e | ⟨e,hf⟩
  · rw [e]; exact I.funs
  · rw [e]
    obtain ⟨m,hn,_⟩:=I.loc
    refine .cons (by rw [I.ok.kind]; decide) hf hn ?_ I.funs
    exact Heap.get?_none_of_le (Nat.le_trans I.ok.bsz I.ok.above)
theorem Inv.stkSub (I:Inv X pins σ H s):∀ b ∈ frs X.stack,b ∈ X.env.locals :: X.fs:=fun b hb=>by
  rcases I.ok.stk with e | ⟨e,hf⟩
  · rw [e] at hb; exact List.mem_cons_of_mem _ hb
  · rw [e] at hb
    unfold frs at hb
    rw [List.filterMap_cons,hf] at hb
    exact hb
theorem Inv.stkFree (I:Inv X pins σ H s):∀ b ∈ frs X.stack,H b=none:=fun b hb=>by
  rcases List.mem_cons.mp (I.stkSub b hb) with e | hb
  · rw [e]; exact I.free
  · obtain ⟨_,o,ho,_⟩:=I.ok.funs.mem hb
    exact I.base.free b o ho (I.ok.frf b hb) fun z=>I.ok.exfs b z hb
theorem Inv.step {g':Array GenState} {t':Nat} {d':Drawn} {ch:List Addr} (I:Inv X pins σ H s)
    (hch:∀ b ∈ ch,(b ∈ X.ex∨X.s₀.heap.objs.size ≤ b)∧b ≠ X.env.locals∧(∀ x c,X.env.cells.lookup x=some c→c ≠ b)∧∀ p ∈ X.pn ++ pins,p.1 ≠ b)
    (keep:∀ b o,b ≠ X.env.locals→b ∉ X.fs→b ∉ ch→s.heap.get? b=some o→H b=none→h'.get? b=some o)
    (slot:∀ b o,b ≠ X.env.locals→b ∈ X.fs→b ∉ ch→s.heap.get? b=some o→H b=none→∃ sl,h'.get? b=some { o with slots:=sl }) (free:∀ b o,b ∉ ch→s.heap.get? b=some o→H b=none→H' b=none)
    (there:∀ b o,b ∉ ch→s.heap.get? b=some o→∃ o',h'.get? b=some o')
    (tups:∀ b xs,H b=some (.tup xs)→H' b=some (.tup xs)) (frzs:∀ b o u,H b=some (.frz o u)→H' b=some (.frz o u)) (tbls:∀ b ps,H b=some (.tbl ps)→∃ more,H' b=some (.tbl (ps ++ more)))
    (ns:∀ m,s.heap.Ns X.env.locals m→h'.Ns X.env.locals m) (hok:HOk X.prog X.w H' h') (hg:AllBare g') :
    Inv X pins σ H' { s with heap:=h',gens:=g',drawn:=d',toks:=t' }:=by
  have neL:∀ b o,X.s₀.heap.get? b=some o→b ≠ X.env.locals:=fun b o e=>Nat.ne_of_lt (Nat.lt_of_lt_of_le (Heap.lt_size e) I.ok.above)
  have neC:∀ b o,X.s₀.heap.get? b=some o→b ∉ X.ex→b ∉ ch:=fun b o e hx hb=>by
    rcases (hch b hb).1 with z | z
    · exact hx z
    · exact absurd (Nat.lt_of_lt_of_le (Heap.lt_size e) z) (Nat.lt_irrefl _)
  have cellK:∀ x c,X.env.cells.lookup x=some c→∀ v,s.heap.IsCell c v→h'.IsCell c v:=fun x c e v ⟨o,ho,hd⟩=>by
    have nch:c ∉ ch:=fun z=>(hch c z).2.2.1 x c e rfl
    by_cases hc:c ∈ X.fs
    · obtain ⟨sl,q⟩:=slot c o (I.cne x c e) hc nch ho (I.freeC x c e)
      exact ⟨_,q,hd⟩
    · exact ⟨o,keep c o (I.cne x c e) hc nch ho (I.freeC x c e),hd⟩
  refine ⟨I.ok,I.os,hg,⟨fun b o e n hb hx=>?_,fun b o e n hb hx=>?_,fun b o e n hx=>?_,fun b o e hx=>?_,fun b xs e=>tups b xs (I.base.tups b xs e),fun b o xs e=>frzs b o xs (I.base.frzs b o xs e),fun b ps e=>?_⟩,?_,fun x c e=>?_,?_,fun x c e=>?_,fun p hp=>?_,hok,I.len⟩
  · exact keep b o (neL b o e) hb (neC b o e hx) (I.base.keep b o e n hb hx) (I.base.free b o e n hx)
  · obtain ⟨sl,e1⟩:=I.base.slot b o e n hb hx
    obtain ⟨sl',e2⟩:=slot b _ (neL b o e) hb (neC b o e hx) e1 (I.base.free b o e n hx)
    exact ⟨sl',e2⟩
  · obtain ⟨o',e1⟩:=I.base.there b o e hx
    exact free b o' (neC b o e hx) e1 (I.base.free b o e n hx)
  · obtain ⟨o',e1⟩:=I.base.there b o e hx
    exact there b o' (neC b o e hx) e1
  · obtain ⟨m1,e1⟩:=I.base.tbls b ps e
    obtain ⟨m2,e2⟩:=tbls b _ e1
    exact ⟨m1 ++ m2,by rw [e2,Array.append_assoc]⟩
  · obtain ⟨m,hn,hl⟩:=I.loc
    refine ⟨m,ns m hn,fun i x v e1 e2 e3=>?_⟩
    obtain ⟨u,r,l⟩:=hl i x v e1 e2 e3
    refine ⟨u,r,?_⟩
    rcases l with l | ⟨k,c,e,z⟩
    · exact .inl l
    · exact .inr ⟨k,c,e,cellK x c e _ z⟩
  · obtain ⟨v,z⟩:=I.cell x c e
    exact ⟨v,cellK x c e v z⟩
  · obtain ⟨m,⟨o,_,_,ho,_⟩,_⟩:=I.loc
    exact free _ o (fun z=>(hch _ z).2.1 rfl) ho I.free
  · obtain ⟨v,o,ho,hd⟩:=I.cell x c e
    exact free c o (fun z=>(hch c z).2.2.1 x c e rfl) ho (I.freeC x c e)
  · obtain ⟨e,n,ne,nf,d⟩:=I.pin p hp
    have nch:p.1 ∉ ch:=fun z=>(hch p.1 z).2.2.2 p hp rfl
    exact ⟨keep p.1 p.2 ne nf nch e n,free p.1 p.2 nch e n,ne,nf,d⟩
theorem Inv.un {t':Nat} (I:Inv X pins σ H s) (u:Un X.fs [] H H' s.heap h') (hok:HOk X.prog X.w H' h'):Inv X pins σ H' { s with heap:=h',toks:=t' }:=by
  obtain ⟨m,⟨o,es,ep,ho,r⟩,_⟩:=id I.loc
  obtain ⟨sl,hL⟩:=u.any ho I.free (by simp)
  exact I.step (g':=s.gens) (d':=s.drawn) (ch:=[]) (fun _ z=>nomatch z) (fun b o _ hb _ e n=>u.keep b o e n hb (by simp)) (fun b o _ hb _ e n=>u.slot b o e n hb (by simp)) (fun b o _ e n=>u.free b o e n (by simp)) (fun b o _ e=>u.there b o e (by simp)) u.tups u.frzs u.tbls (fun m' hm=>by
    obtain ⟨o',es',ep',ho',r'⟩:=hm
    rw [ho] at ho'; cases ho'
    exact ⟨_,es',ep',hL,r'⟩) hok I.bare
theorem Inv.call {g':Array GenState} {t':Nat} {d':Drawn} {ch:List Addr} (I:Inv X pins σ H s) (u:Un (frs X.stack) ch H H' s.heap h') (hok:HOk X.prog X.w H' h') (hg:AllBare g')
    (hch:∀ b ∈ ch,(b ∈ X.ex∨X.s₀.heap.objs.size ≤ b)∧b ≠ X.env.locals∧(∀ x c,X.env.cells.lookup x=some c→c ≠ b)∧∀ p ∈ X.pn ++ pins,p.1 ≠ b) :
    Inv X pins σ H' { s with heap:=h',gens:=g',drawn:=d',toks:=t' }:=by
  obtain ⟨m,⟨o,es,ep,ho,r⟩,_⟩:=id I.loc
  obtain ⟨sl,hL⟩:=u.any ho I.free fun z=>(hch _ z).2.1 rfl
  exact I.step (ch:=ch) hch (fun b o hL hb hc e n=>u.keep b o e n (fun z=>(List.mem_cons.mp (I.stkSub b z)).elim hL hb) hc) (fun b o _ _ hc e n=>u.any e n hc) (fun b o hc e n=>u.free b o e n hc) (fun b o hc e=>u.there b o e hc) u.tups u.frzs u.tbls (fun m' hm=>by
    obtain ⟨o',es',ep',ho',r'⟩:=hm
    rw [ho] at ho'; cases ho'
    exact ⟨_,es',ep',hL,r'⟩) hok hg
theorem Inv.turned {t':Nat} {it:Addr} (I:Inv X pins σ H s) (k:∀ b o,b ≠ it→s.heap.get? b=some o→h'.get? b=some o) (hn:H it=none) (hL:it ≠ X.env.locals)
    (h1:it ∈ X.ex∨X.s₀.heap.objs.size ≤ it) (h2:∀ x c,X.env.cells.lookup x=some c→c ≠ it) (h3:∀ p ∈ X.pn ++ pins,p.1 ≠ it):Inv X pins σ H { s with heap:=h',toks:=t' }:=by
  have nit:∀ b u,H b=some u→b ≠ it:=fun b u e z=>by rw [z,hn] at e; cases e
  refine I.step (g':=s.gens) (d':=s.drawn) (ch:=[it]) (fun b hb=>?_) (fun b o _ _ hc e _=>k b o (fun z=>hc (by simp [z])) e) (fun b o _ _ hc e _=>⟨o.slots,k b o (fun z=>hc (by simp [z])) e⟩) (fun _ _ _ _ n=>n)
    (fun b o hc e=>⟨o,k b o (fun z=>hc (by simp [z])) e⟩) (fun _ _ e=>e) (fun _ _ _ e=>e) (fun b ps e=>⟨#[],by rw [e]; simp⟩) (fun m hm=>?_) (fun b u e=>?_) I.bare
  · have e:b=it:=by simpa using hb
    subst e
    exact ⟨h1,hL,h2,h3⟩
  · obtain ⟨o,es,ep,ho,r⟩:=hm
    exact ⟨o,es,ep,k _ o (Ne.symm hL) ho,r⟩
  · refine (I.hok b u e).stay (fun c v hc q=>k c v ?_ q) (fun _ q=>q) fun _ _ q=>q
    rcases hc with z | z
    · rw [z]; exact nit b u e
    · exact nit c _ z
theorem Inv.tok (I:Inv X pins σ H s) (t:Nat):Inv X pins σ H { s with toks:=t }:=I.un (h':=s.heap) (t':=t) Un.refl I.hok
theorem Inv.kept {t':Nat} (I:Inv X pins σ H s) (k:∀ b u,s.heap.get? b=some u→h'.get? b=some u):Inv X pins σ H { s with heap:=h',toks:=t' }:=I.un (Un.kept k) (I.hok.kept k)
theorem Inv.laid {a:Addr} {o:HO} {t':Nat} (I:Inv X pins σ H s) (k:∀ b u,s.heap.get? b=some u→h'.get? b=some u) (hp:s.heap.objs.size ≤ a) (new:ObjOk X.prog X.w (upd H a o) h' a o) :
    Inv X pins σ (upd H a o) { s with heap:=h',toks:=t' }:=I.un (Un.laid k hp (I.hok.fresh hp)) (I.hok.laid k hp new)
theorem Inv.write {x e:Addr} {o:HO} {t':Nat} (I:Inv X pins σ H s) (mu:Mut (H x)) (he:e=x∨H e=some (.own x)) (k:∀ b u,b ≠ e→s.heap.get? b=some u→h'.get? b=some u) (heo:∃ u,h'.get? e=some u)
    (new:ObjOk X.prog X.w (upd H x o) h' x o):Inv X pins σ (upd H x o) { s with heap:=h',toks:=t' }:=I.un (Un.write mu he k heo) (I.hok.write mu he k heo new)
theorem Inv.pins_of {pins':List (Addr × Obj)} (I:Inv X pins σ H s) (h:∀ p ∈ pins',s.heap.get? p.1=some p.2∧H p.1=none∧p.1 ≠ X.env.locals∧p.1 ∉ X.fs∧∀ v,p.2.data ≠ .cell v):Inv X pins' σ H s:=
  ⟨I.ok,I.os,I.bare,I.base,I.loc,I.cell,I.free,I.freeC,fun p hp=>(List.mem_append.mp hp).elim (fun z=>I.pin p (List.mem_append_left _ z)) (h p),I.hok,I.len⟩
theorem nodup_ix {N:List Str} (hN:N.Nodup) {i j:Nat} {x:Str} (a:N[i]?=some x) (b:N[j]?=some x):i=j:=by
  obtain ⟨h1,e1⟩:=List.getElem?_eq_some_iff.mp a
  obtain ⟨h2,e2⟩:=List.getElem?_eq_some_iff.mp b
  exact (List.getElem_inj hN).mp (e1.trans e2.symm)
theorem store_ok2 {M:Model} {A:Around} {E:Value→Shared→Prop} {i:Nat} {x:Str} {v:V} {u:Value} {Q:Unit→Shared→Prop} (I:Inv X pins σ H s) (hN:X.N.Nodup) (hi:X.N[i]?=some x) (hx:Loc X.env.scope x) (r:RelV v u)
    (h:∀ s',Inv X pins (σ.set i (some v)) H s'→(∃ a,Heap.SameBut a s.heap s'.heap∧(a=X.env.locals∨X.env.cells.lookup x=some a))→Q () s') (hf:X.fn x=true∨X.env.scope.names.lookup x=some .local:=by first | exact .inl rfl | exact .inr rfl | assumption):wpAny M A (storeName X.env x u) Q E s:=by
  obtain ⟨m,hn,hl⟩:=id I.loc
  have hcls:(X.env.scope.kind == .class || (X.env.scope.kind == .module && X.env.locals != X.env.globals))=false:=by rw [I.ok.kind]; rfl
  have hiσ:i < σ.length:=by rw [I.len]; exact (List.getElem?_eq_some_iff.mp hi).1
  have cne:=I.cne
  have tracked:∀ {a:Addr} {h':Heap},(∃ o,s.heap.get? a=some o∧H a=none)→Heap.SameBut a s.heap h'→HOk X.prog X.w H h':=fun {a h'} ha hs b ob e=>by
    obtain ⟨_,_,hfree⟩:=ha
    refine (I.hok b ob e).stay (fun c w' hc q=>(hs.2 c ?_).trans q) (fun _ q=>q) fun _ _ q=>q
    rintro rfl
    rcases hc with rfl | hc
    · rw [hfree] at e; cases e
    · rw [hfree] at hc; cases hc
  rcases hx with hk | hk
  · refine wpAny_storeName_local hk hn (fun h' hn' hs=>?_) hcls
    obtain ⟨oL,_,_,hoL,_⟩:=id hn
    refine h _ ⟨I.ok,I.os,I.bare,⟨fun b o e n hb hx=>?_,fun b o e n hb hx=>?_,I.base.free,fun b o e hx=>?_,I.base.tups,I.base.frzs,I.base.tbls⟩,⟨_,hn',fun j y v' e1 e2 e3=>?_⟩,fun y c e=>?_,I.free,I.freeC,fun p hp=>?_,tracked ⟨oL,hoL,I.free⟩ hs,by simpa using I.len⟩ ⟨_,hs,.inl rfl⟩
    · exact (hs.2 b (Nat.ne_of_lt (Nat.lt_of_lt_of_le (Heap.lt_size e) I.ok.above))).trans (I.base.keep b o e n hb hx)
    · obtain ⟨sl,e1⟩:=I.base.slot b o e n hb hx
      exact ⟨sl,(hs.2 b (Nat.ne_of_lt (Nat.lt_of_lt_of_le (Heap.lt_size e) I.ok.above))).trans e1⟩
    · obtain ⟨o',e1⟩:=I.base.there b o e hx
      exact ⟨o',(hs.2 b (Nat.ne_of_lt (Nat.lt_of_lt_of_le (Heap.lt_size e) I.ok.above))).trans e1⟩
    · by_cases hj:j=i
      · subst hj
        rw [hi] at e1; cases e1
        rw [List.getElem?_set_self hiσ] at e2
        cases e2
        exact ⟨u,r,.inl ⟨hk,by simp⟩⟩
      · rw [List.getElem?_set_ne (Ne.symm hj)] at e2
        obtain ⟨u',r',q⟩:=hl j y v' e1 e2 e3
        refine ⟨u',r',?_⟩
        rcases q with ⟨k,e⟩ | ⟨k,c,e,z⟩
        · refine .inl ⟨k,?_⟩
          have:y ≠ x:=fun e=>hj (nodup_ix hN e1 (e ▸ hi))
          simp [this,e]
        · exact .inr ⟨k,c,e,z.sameBut hs (cne y c e)⟩
    · obtain ⟨w',z⟩:=I.cell y c e
      exact ⟨w',z.sameBut hs (cne y c e)⟩
    · obtain ⟨e,n,ne,nf,d⟩:=I.pin p hp
      exact ⟨(hs.2 p.1 ne).trans e,n,ne,nf,d⟩
  · have hfn:X.fn x=true:=by
      rcases hf with z | z
      · exact z
      · rw [z] at hk; cases hk
    obtain ⟨c,hc⟩:=I.ok.has x (.inl hk)
    obtain ⟨w',z⟩:=I.cell x c hc
    refine wpAny_storeName_cell I.ok.kind hk hc z (fun h' hc' hs=>?_)
    obtain ⟨oc,hoc,hocd⟩:=id z
    refine h { s with heap:=h' } ⟨I.ok,I.os,I.bare,⟨fun b o e n hb hx=>?_,fun b o e n hb hx=>?_,I.base.free,fun b o e hx=>?_,I.base.tups,I.base.frzs,I.base.tbls⟩,⟨m,hn.sameBut hs (Ne.symm (cne x c hc)),fun j y v' e1 e2 e3=>?_⟩,fun y c' e=>?_,I.free,I.freeC,fun p hp=>?_,tracked ⟨oc,hoc,I.freeC x c hc⟩ hs,by simpa using I.len⟩ ⟨c,hs,.inr hc⟩
    · exact (hs.2 b (Nat.ne_of_lt (Nat.lt_of_lt_of_le (Heap.lt_size e) (I.ok.cab x c hfn hc)))).trans (I.base.keep b o e n hb hx)
    · obtain ⟨sl,e1⟩:=I.base.slot b o e n hb hx
      exact ⟨sl,(hs.2 b (Nat.ne_of_lt (Nat.lt_of_lt_of_le (Heap.lt_size e) (I.ok.cab x c hfn hc)))).trans e1⟩
    · obtain ⟨o',e1⟩:=I.base.there b o e hx
      exact ⟨o',(hs.2 b (Nat.ne_of_lt (Nat.lt_of_lt_of_le (Heap.lt_size e) (I.ok.cab x c hfn hc)))).trans e1⟩
    · by_cases hj:j=i
      · subst hj
        rw [hi] at e1; cases e1
        rw [List.getElem?_set_self hiσ] at e2
        cases e2
        exact ⟨u,r,.inr ⟨.inl hk,c,hc,hc'⟩⟩
      · rw [List.getElem?_set_ne (Ne.symm hj)] at e2
        obtain ⟨u',r',q⟩:=hl j y v' e1 e2 e3
        refine ⟨u',r',?_⟩
        rcases q with q | ⟨k,c',e,z'⟩
        · exact .inl q
        · refine .inr ⟨k,c',e,z'.sameBut hs ?_⟩
          rintro rfl
          exact hj (nodup_ix hN e1 (I.ok.inj _ _ _ e hc ▸ hi))
    · by_cases hcc:c'=c
      · subst hcc; exact ⟨_,hc'⟩
      · obtain ⟨w2,z2⟩:=I.cell y c' e
        exact ⟨w2,z2.sameBut hs hcc⟩
    · obtain ⟨e,n,ne,nf,d⟩:=I.pin p hp
      refine ⟨(hs.2 p.1 ?_).trans e,n,ne,nf,d⟩
      intro q
      rw [q,hoc] at e
      have q':oc=p.2:=Option.some.inj e
      exact d w' (by rw [← q']; exact hocd)
theorem store_ok {M:Model} {A:Around} {E:Value→Shared→Prop} {i:Nat} {x:Str} {v:V} {u:Value} {Q:Unit→Shared→Prop} (I:Inv X pins σ H s) (hN:X.N.Nodup) (hi:X.N[i]?=some x) (hx:Loc X.env.scope x) (r:RelV v u)
    (h:∀ s',Inv X pins (σ.set i (some v)) H s'→Q () s') (hf:X.fn x=true∨X.env.scope.names.lookup x=some .local:=by first | exact .inl rfl | exact .inr rfl | assumption):wpAny M A (storeName X.env x u) Q E s:=
  store_ok2 I hN hi hx r (fun s' I' _=>h s' I') hf
theorem Inv.call' {s':Shared} {ch:List Addr} (I:Inv X pins σ H s) (ho:s'.os=s.os) (u:Un (frs X.stack) ch H H' s.heap s'.heap) (hok:HOk X.prog X.w H' s'.heap) (hg:AllBare s'.gens)
    (hch:∀ b ∈ ch,(b ∈ X.ex∨X.s₀.heap.objs.size ≤ b)∧b ≠ X.env.locals∧(∀ x c,X.env.cells.lookup x=some c→c ≠ b)∧∀ p ∈ X.pn ++ pins,p.1 ≠ b):Inv X pins σ H' s':=by
  obtain ⟨h',g',d',t',o'⟩:=s'
  have e:o'=s.os:=ho
  subst e
  exact I.call (g':=g') (t':=t') (d':=d') u hok hg hch
end
noncomputable abbrev XK:=Value→Option Addr→Hp→Prop
noncomputable abbrev St:=List (Option V)
noncomputable abbrev VK:=V→Hp→Prop
noncomputable abbrev TE:=St→Hp→VK→Prop
noncomputable abbrev TT:=St→Hp→(Bool→Hp→Prop)→Prop
noncomputable abbrev TA:=St→Hp→(List V→Hp→Prop)→Prop
structure Ends where
  nx:St→Hp→Prop
  rt:VK
  bk:St→Hp→Prop:=fun _ _=>False
  ct:St→Hp→Prop:=fun _ _=>False
noncomputable abbrev TS:=Ends→St→Hp→Prop
noncomputable def EP (X:Cx) (pins:List (Addr × Obj)) (σ:St) (Q:VK) (u:Value) (s':Shared):Prop:=∃ v H',Inv X pins σ H' s'∧RelV v u∧Q v H'
noncomputable def TP (X:Cx) (pins:List (Addr × Obj)) (σ:St) (Q:Bool→Hp→Prop) (b:Bool) (s':Shared):Prop:=∃ H',Inv X pins σ H' s'∧Q b H'
noncomputable def AP (X:Cx) (pins:List (Addr × Obj)) (σ:St) (Q:List V→Hp→Prop) (us:List Value) (s':Shared):Prop:=∃ vs H',Inv X pins σ H' s'∧Vals vs us∧Q vs H'
noncomputable def SP (X:Cx) (pins:List (Addr × Obj)) (D:Ends) (f:Flow) (s':Shared):Prop:=
  match f with
  | .next=>∃ σ' H',Inv X pins σ' H' s'∧D.nx σ' H'
  | .brk=>∃ σ' H',Inv X pins σ' H' s'∧D.bk σ' H'
  | .cont=>∃ σ' H',Inv X pins σ' H' s'∧D.ct σ' H'
  | .ret u=>∃ v σ' H',Inv X pins σ' H' s'∧RelV v u∧D.rt v H'
noncomputable def PE (X:Cx) (e:Expr) (t:TE):Prop:=
  ∀ (pins:List (Addr × Obj)) (s:Shared) (σ:St) (H:Hp) (Q:VK),Inv X pins σ H s→t σ H Q→wpAny (model X.prog X.w) X.A (eval e X.env) (EP X pins σ Q) X.xe s
noncomputable def PT (X:Cx) (e:Expr) (t:TT):Prop:=
  ∀ (pins:List (Addr × Obj)) (s:Shared) (σ:St) (H:Hp) (Q:Bool→Hp→Prop),Inv X pins σ H s→t σ H Q→wpAny (model X.prog X.w) X.A (isTrue e X.env (eval e X.env)) (TP X pins σ Q) X.xe s
noncomputable def PW (X:Cx) (e:Expr) (t:TT):Prop:=
  ∀ (whole:Sem Value) (pins:List (Addr × Obj)) (s:Shared) (σ:St) (H:Hp) (Q:Bool→Hp→Prop),Inv X pins σ H s→t σ H Q→wpAny (model X.prog X.w) X.A (isTrue e X.env whole) (TP X pins σ Q) X.xe s
theorem PW.pt {X:Cx} {e:Expr} {t:TT} (h:PW X e t):PT X e t:=h _
noncomputable def PA (X:Cx) (es:List Expr) (t:TA):Prop:=
  ∀ (pos:Pos) (pins:List (Addr × Obj)) (s:Shared) (σ:St) (H:Hp) (Q:List V→Hp→Prop),Inv X pins σ H s→t σ H Q→wpAny (model X.prog X.w) X.A (spliced (backTo pos (starEach es X.env))) (AP X pins σ Q) X.xe s
noncomputable def PS (X:Cx) (st:Stmt) (t:TS):Prop:=
  ∀ (pins:List (Addr × Obj)) (s:Shared) (σ:St) (H:Hp) (D:Ends),Inv X pins σ H s→t D σ H→wpAny (model X.prog X.w) X.A (exec st X.env) (SP X pins D) X.xe s
noncomputable def PSs (X:Cx) (st:List Stmt) (t:TS):Prop:=
  ∀ (pins:List (Addr × Obj)) (s:Shared) (σ:St) (H:Hp) (D:Ends),Inv X pins σ H s→t D σ H→wpAny (model X.prog X.w) X.A (execs st X.env) (SP X pins D) X.xe s
theorem thn {α:Type} {t:Sem α} {Q Q':α→Shared→Prop} {M:Model} {A:Around} {E:Value→Shared→Prop} {s:Shared} (h:wpAny M A t Q E s) (hQ:∀ a s,Q a s→Q' a s):wpAny M A t Q' E s:=wpAny_mono h hQ fun _ _ x=>x
end L2
namespace L2
open PySem PySem.Spec PyProof.Rows
section
variable {X:Cx}
noncomputable def tVar (i:Nat):TE:=fun σ H Q=>∃ v,σ[i]?=some (some v)∧Q v H
noncomputable def tC (v:V):TE:=fun _ H Q=>Q v H
theorem pe_var {i:Nat} {x:Str} {pos:Pos} (hN:X.N[i]?=some x) (hv:Vis X.env.scope x) (hd:(x == ("__debug__" : Str))=false:=by decide) (hcd:(x == ("__classdict__" : Str))=false:=by decide):PE X (.Name x pos) (tVar i):=by
  intro pins s σ H Q I h
  obtain ⟨v,e,h⟩:=h
  obtain ⟨m,hn,hl⟩:=I.loc
  obtain ⟨u,r,l⟩:=hl i x v hN e hv
  have fin:EP X pins σ Q u s:=⟨v,H,I,r,h⟩
  rcases l with ⟨hk,hm⟩ | ⟨hk,c,hc,hcell⟩
  · exact wpAny_Name (wpAny_loadName_local I.ok.kind hk hn hm fin) hd
  · rcases hk with hk | hk
    · exact wpAny_Name (wpAny_loadName_cell I.ok.kind hk hc hcell fin) hd
    · exact wpAny_Name (wpAny_loadName_free I.ok.kind hk hc hcell fin hcd) hd
theorem pe_int {i j pos}:PE X (.Constant (.int i) j pos) (tC (.int i)):=fun _ _ _ H _ I h=>wpAny_Constant_int ⟨.int i,H,I.tok _,⟨_,rfl⟩,h⟩
theorem pe_bl {b j pos}:PE X (.Constant (.bool b) j pos) (tC (.bl b)):=fun _ _ _ H _ I h=>Constant_bool ⟨.bl b,H,I,rfl,h⟩
theorem pe_non {j pos}:PE X (.Constant .none j pos) (tC .non):=fun _ _ _ H _ I h=>Constant_none ⟨.non,H,I,rfl,h⟩
theorem pe_str {x j pos}:PE X (.Constant (.str x) j pos) (tC (.str x)):=fun _ _ _ H _ I h=>Calls.Constant_str ⟨.str x,H,I.tok _,⟨_,rfl⟩,h⟩
noncomputable def Gl (X:Cx) (x:Str):Prop:=X.env.kindOf x=some .globalImplicit
theorem ld_glob {E:Value→Shared→Prop} {pins:List (Addr × Obj)} {s:Shared} {σ:St} {H:Hp} {x:Str} {u:Value} {pos:Pos} {Q:Value→Shared→Prop} (I:Inv X pins σ H s) (hg:Gl X x) (hm:X.mg x=some u) (h:Q u s)
    (hd:(x == ("__debug__" : Str))=false:=by decide):wpAny (model X.prog X.w) X.A (eval (.Name x pos) X.env) Q E s:=
  Calls.Name_function_global I.ok.kind hg (Calls.loadGlobal_global (by rw [I.ok.glob]; exact I.mod.glob.keeps I.bk) hm h) hd
theorem ld_blt {E:Value→Shared→Prop} {pins:List (Addr × Obj)} {s:Shared} {σ:St} {H:Hp} {x:Str} {u:Value} {pos:Pos} {Q:Value→Shared→Prop} (I:Inv X pins σ H s) (hg:Gl X x) (hm:X.mg x=none) (hv:bootBuiltins x=some u) (h:Q u s)
    (hn:x ≠ "__name__" := by decide) (hd:(x == ("__debug__" : Str))=false:=by decide):wpAny (model X.prog X.w) X.A (eval (.Name x pos) X.env) Q E s:=by
  obtain ⟨mb,h1,h2⟩:=I.mod.blt
  exact Calls.Name_function_global I.ok.kind hg (Calls.loadGlobal_builtin (by rw [I.ok.glob]; exact I.mod.glob.keeps I.bk) hm (by rw [I.ok.blt]; exact h1.keeps I.bk) ((h2 x hn).trans hv) h) hd
theorem pe_glob {x:Str} {v:V} {u:Value} {pos:Pos} (hg:Gl X x) (hm:X.mg x=some u) (r:RelV v u) (hd:(x == ("__debug__" : Str))=false:=by decide):PE X (.Name x pos) (tC v):=
  fun _ _ _ H _ I h=>ld_glob I hg hm ⟨v,H,I,r,h⟩ hd
theorem pe_bltn {x:Str} {v:V} {u:Value} {pos:Pos} (hg:Gl X x) (hm:X.mg x=none) (hv:bootBuiltins x=some u) (r:RelV v u) (hn:x ≠ "__name__" := by decide) (hd:(x == ("__debug__" : Str))=false:=by decide):PE X (.Name x pos) (tC v):=
  fun _ _ _ H _ I h=>ld_blt I hg hm hv ⟨v,H,I,r,h⟩ hn hd
variable {a b:Expr} {ta tb:TE} {pos:Pos}
noncomputable def PC (X:Cx) (op:CmpOp) (a b:Expr) (t:TE):Prop:=
  ∀ (pins:List (Addr × Obj)) (s:Shared) (σ:St) (H:Hp) (Q:VK),Inv X pins σ H s→t σ H Q→
    wpAny (model X.prog X.w) X.A (eval a X.env) (fun v s₁=>wpAny (model X.prog X.w) X.A (eval b X.env) (fun u s₂=>wpAny (model X.prog X.w) X.A (compareOp op v u) (EP X pins σ Q) X.xe s₂) X.xe s₁) X.xe s
theorem nobehind (b:Expr) {op:CmpOp} (h:op ≠ .In) (h2:op ≠ .NotIn):behindInMarks op b=false:=by
  have e1:(op == CmpOp.In)=false:=by cases op <;> first | rfl | exact absurd rfl h
  have e2:(op == CmpOp.NotIn)=false:=by cases op <;> first | rfl | exact absurd rfl h2
  cases b <;> simp [behindInMarks,e1,e2]
noncomputable def tB (t:TE):TT:=fun σ H Q=>t σ H fun x H1=>∃ c,x=.bl c∧Q c H1
theorem pt_cmp {op:CmpOp} {t:TE} (h:PC X op a b t) (h1:behindInMarks op b=false:=by first | exact nobehind _ (by decide) (by decide) | rfl):PT X (.Compare a [op] [b] pos) (tB t):=by
  intro pins s σ H Q I hw
  refine wpAny_isTrue_Compare1 (thn (h pins s σ H _ I hw) fun v s1 h1=>thn h1 fun u s2 h2=>thn h2 fun c s3 ⟨x,H1,I1,r1,q1⟩=>?_) h1
  obtain ⟨d,rfl,q⟩:=q1
  cases r1
  exact wpAny_truthy_bool ⟨H1,I1,q⟩
theorem pt_val {e:Expr} {t:TE} (h:PE X e t) (he:∀ whole,isTrue e X.env whole=(do let v ← whole; standAt e.pos; holding [v] (truthy v)):=by intro _; rfl):PT X e (tB t):=by
  intro pins s σ H Q I hw
  refine isTrue_plain (thn (h pins s σ H _ I hw) fun v s1 ⟨x,H1,I1,r1,q1⟩=>?_) (he _)
  obtain ⟨d,rfl,q⟩:=q1
  cases r1
  exact wpAny_truthy_bool ⟨H1,I1,q⟩
variable {tA tB':TT} {rest:List Expr}
noncomputable def tAnd (t u:TT):TT:=fun σ H Q=>t σ H fun c H1=>if c=true then u σ H1 Q else Q false H1
noncomputable def tOr (t u:TT):TT:=fun σ H Q=>t σ H fun c H1=>if c=true then Q true H1 else u σ H1 Q
noncomputable def tNot (t:TT):TT:=fun σ H Q=>t σ H fun c H1=>Q (!c) H1
theorem pw_and1 (ha:PT X a tA):PW X (.BoolOp .And [a] pos) tA:=by
  intro wh pins s σ H Q I h
  refine isTrue_and (thn (ha pins s σ H Q I h) fun c s1 e=>?_)
  cases c with
  | true=>exact isTrue_and_nil e
  | false=>exact e
theorem pw_or1 (ha:PT X a tA):PW X (.BoolOp .Or [a] pos) tA:=by
  intro wh pins s σ H Q I h
  refine isTrue_or (thn (ha pins s σ H Q I h) fun c s1 e=>?_)
  cases c with
  | false=>exact isTrue_or_nil e
  | true=>exact e
theorem pw_and (ha:PT X a tA) (hb:PW X (.BoolOp .And (b :: rest) pos) tB'):PW X (.BoolOp .And (a :: b :: rest) pos) (tAnd tA tB'):=by
  intro wh pins s σ H Q I h
  refine isTrue_and (thn (ha pins s σ H _ I h) fun c s1 ⟨H1,I1,q1⟩=>?_)
  cases c with
  | true=>exact hb wh pins s1 σ H1 Q I1 q1
  | false=>exact ⟨H1,I1,q1⟩
theorem pw_or (ha:PT X a tA) (hb:PW X (.BoolOp .Or (b :: rest) pos) tB'):PW X (.BoolOp .Or (a :: b :: rest) pos) (tOr tA tB'):=by
  intro wh pins s σ H Q I h
  refine isTrue_or (thn (ha pins s σ H _ I h) fun c s1 ⟨H1,I1,q1⟩=>?_)
  cases c with
  | true=>exact ⟨H1,I1,q1⟩
  | false=>exact hb wh pins s1 σ H1 Q I1 q1
theorem pt_not (ha:PT X a tA):PT X (.UnaryOp .Not a pos) (tNot tA):=by
  intro pins s σ H Q I h
  exact isTrue_not (ha pins s σ H (fun c H1=>Q (!c) H1) I h)
noncomputable def tAndV (ta tb:TE):TE:=fun σ H Q=>ta σ H fun x H1=>∃ c,x=.bl c∧if c=true then tb σ H1 Q else Q (.bl false) H1
noncomputable def tOrV (ta tb:TE):TE:=fun σ H Q=>ta σ H fun x H1=>∃ c,x=.bl c∧if c=true then Q (.bl true) H1 else tb σ H1 Q
noncomputable def tNotV (ta:TE):TE:=fun σ H Q=>ta σ H fun x H1=>∃ c,x=.bl c∧Q (.bl (!c)) H1
theorem pe_one {op} {t:TE} (h:PE X a t):PE X (.BoolOp op [a] pos) t:=fun pins s σ H Q I hw=>BoolOp_one (h pins s σ H Q I hw)
theorem pe_and (ha:PE X a ta) (hb:PE X (.BoolOp .And (b :: rest) pos) tb):PE X (.BoolOp .And (a :: b :: rest) pos) (tAndV ta tb):=by
  intro pins s σ H Q I h
  refine BoolOp_and (thn (ha pins s σ H _ I h) fun v s1 ⟨x,H1,I1,r1,q1⟩=>?_)
  obtain ⟨c,rfl,q1⟩:=q1
  cases r1
  refine wpAny_truthy_bool ?_
  cases c with
  | true=>exact hb pins s1 σ H1 Q I1 q1
  | false=>exact ⟨.bl false,H1,I1,rfl,q1⟩
theorem pe_or (ha:PE X a ta) (hb:PE X (.BoolOp .Or (b :: rest) pos) tb):PE X (.BoolOp .Or (a :: b :: rest) pos) (tOrV ta tb):=by
  intro pins s σ H Q I h
  refine BoolOp_or (thn (ha pins s σ H _ I h) fun v s1 ⟨x,H1,I1,r1,q1⟩=>?_)
  obtain ⟨c,rfl,q1⟩:=q1
  cases r1
  refine wpAny_truthy_bool ?_
  cases c with
  | false=>exact hb pins s1 σ H1 Q I1 q1
  | true=>exact ⟨.bl true,H1,I1,rfl,q1⟩
theorem pe_not (ha:PE X a ta):PE X (.UnaryOp .Not a pos) (tNotV ta):=by
  intro pins s σ H Q I h
  refine UnaryOp_ (thn (ha pins s σ H _ I h) fun v s1 ⟨x,H1,I1,r1,q1⟩=>?_)
  obtain ⟨c,rfl,q1⟩:=q1
  cases r1
  exact not_of (wpAny_truthy_bool ⟨.bl (!c),H1,I1,rfl,q1⟩)
noncomputable def tIf (t:TT) (ta tb:TE):TE:=fun σ H Q=>t σ H fun c H1=>if c=true then ta σ H1 Q else tb σ H1 Q
theorem pe_ifExp {c:Expr} (hc:PT X c tA) (ha:PE X a ta) (hb:PE X b tb):PE X (.IfExp c a b pos) (tIf tA ta tb):=by
  intro pins s σ H Q I h
  refine wpAny_IfExp (thn (hc pins s σ H _ I h) fun d s1 ⟨H1,I1,q1⟩=>?_)
  cases d with
  | true=>exact ha pins s1 σ H1 Q I1 q1
  | false=>exact hb pins s1 σ H1 Q I1 q1
end
end L2
namespace L2
open PySem PySem.Spec PyProof.Rows
noncomputable def SqL (K:PySem.W.Frag) (H:Hp) (a:Addr) (xs:List V):Prop:=
  Rd H a (.lst xs)∨
    ∃ (o:Obj) (its:Array Value) (n:Nat),K.lookup a=some o∧o.cls=.type "list" ∧ o.dict=none∧o.data=.seq its n∧its.size ≤ sizeLine∧Vals xs its.toList
noncomputable def SqT (K:PySem.W.Frag) (H:Hp) (a:Addr) (xs:List V):Prop:=
  Rd H a (.tup xs)∨
    ∃ (o:Obj) (its:Array Value) (n:Nat),K.lookup a=some o∧o.cls=.type "tuple" ∧ o.data=.seq its n∧its.size ≤ sizeLine∧Vals xs its.toList
noncomputable def absV:Value→Option V
  | .none=>some .non
  | .bool b=>some (.bl b)
  | .int i _=>some (.int i)
  | .str x _=>some (.str x)
  | .bytes b _=>some (.byt b)
  | .float b _=>some (.flt b)
  | .ref a=>some (.ref a)
  | .type n=>some (.ty n)
  | _=>none
theorem RelV.abs {x:V} {u:Value} (r:RelV x u):absV u=some x:=by
  cases x with
  | non=>cases r; rfl
  | bl _=>cases r; rfl
  | int _=>obtain ⟨t,rfl⟩:=r; rfl
  | str _=>obtain ⟨t,rfl⟩:=r; rfl
  | byt _=>obtain ⟨t,rfl⟩:=r; rfl
  | flt _=>obtain ⟨t,rfl⟩:=r; rfl
  | ref _=>cases r; rfl
  | ty _=>cases r; rfl
theorem RelV.inj {x y:V} {u:Value} (r:RelV x u) (q:RelV y u):x=y:=Option.some.inj (r.abs.symm.trans q.abs)
theorem Vals.inj:∀ {xs ys:List V} {us:List Value},Vals xs us→Vals ys us→xs=ys
  | _,_,_,.nil,.nil=>rfl
  | _,_,_,.cons r t,.cons r' t'=>by rw [r.inj r',Vals.inj t t']
section
variable {X:Cx} {pins:List (Addr × Obj)} {σ:St} {H:Hp} {s:Shared} {a:Addr} {xs ys:List V}
theorem SqL.of {K:PySem.W.Frag} (h:H a=some (.lst xs)):SqL K H a xs:=.inl (.inl h)
theorem SqT.of {K:PySem.W.Frag} (h:H a=some (.tup xs)):SqT K H a xs:=.inl (.inl h)
theorem Inv.list (I:Inv X pins σ H s) (h:SqL X.K H a xs):∃ its:List Value,Vals xs its∧PlainL s.heap a its.toArray∧xs.length ≤ sizeLine:=by
  rcases h with h | ⟨o,its,n,hk,hc,hd,hs,hz,r⟩
  · obtain ⟨z,its,n,r,e⟩:=h.ok I.hok
    exact ⟨its,r,⟨_,n,e,rfl,rfl,rfl⟩,z⟩
  · refine ⟨its.toList,r,⟨o,n,I.kIn a o hk,hc,hd,by simpa using hs⟩,?_⟩
    have e:=r.length
    simp only [Array.length_toList] at e
    omega
theorem Inv.tuple (I:Inv X pins σ H s) (h:SqT X.K H a xs):∃ its:List Value,Vals xs its∧IsTup s.heap a its.toArray∧xs.length ≤ sizeLine:=by
  rcases h with h | ⟨o,its,n,hk,hc,hs,hz,r⟩
  · obtain ⟨z,its,r,p⟩:=h.ok I.hok
    exact ⟨its,r,p,z⟩
  · refine ⟨its.toList,r,⟨o,I.kIn a o hk,hc,n,by simpa using hs⟩,?_⟩
    have e:=r.length
    simp only [Array.length_toList] at e
    omega
theorem Inv.list_inj (I:Inv X pins σ H s) (h:SqL X.K H a xs) (h':SqL X.K H a ys):xs=ys:=by
  obtain ⟨its,r,⟨o,n,e,_,_,d⟩,_⟩:=I.list h
  obtain ⟨its',r',⟨o',n',e',_,_,d'⟩,_⟩:=I.list h'
  rw [e] at e'; cases e'
  rw [d] at d'
  injection d' with d1 _
  have:its=its':=by simpa using congrArg Array.toList d1
  subst this
  exact r.inj r'
theorem Inv.tuple_inj (I:Inv X pins σ H s) (h:SqT X.K H a xs) (h':SqT X.K H a ys):xs=ys:=by
  obtain ⟨its,r,⟨o,e,_,n,d⟩,_⟩:=I.tuple h
  obtain ⟨its',r',⟨o',e',_,n',d'⟩,_⟩:=I.tuple h'
  rw [e] at e'; cases e'
  rw [d] at d'
  injection d' with d1 _
  have:its=its':=by simpa using congrArg Array.toList d1
  subst this
  exact r.inj r'
end
noncomputable abbrev Cx.wish (X:Cx) (E:Value→Shared→Prop):Cx:={ X with xe:=E }
noncomputable abbrev Cx.nox (X:Cx):Cx:=X.wish fun _ _=>False
theorem Cx.Ok.wish {X:Cx} (ok:X.Ok) (E:Value→Shared→Prop):(X.wish E).Ok:=
  ⟨ok.mod,ok.kind,ok.glob,ok.blt,ok.above,ok.inj,ok.has,ok.cab,ok.hd,ok.frames,ok.stk,ok.exf,ok.bs,ok.bsz,ok.noex,ok.exfs,ok.funs,ok.frf⟩
theorem Cx.Ok.unwish {X:Cx} {E:Value→Shared→Prop} (ok:(X.wish E).Ok):X.Ok:=
  ⟨ok.mod,ok.kind,ok.glob,ok.blt,ok.above,ok.inj,ok.has,ok.cab,ok.hd,ok.frames,ok.stk,ok.exf,ok.bs,ok.bsz,ok.noex,ok.exfs,ok.funs,ok.frf⟩
section
variable {X:Cx} {pins:List (Addr × Obj)} {σ:St} {H:Hp} {s:Shared} {E:Value→Shared→Prop}
theorem Inv.wish (I:Inv X pins σ H s) (E:Value→Shared→Prop):Inv (X.wish E) pins σ H s:=⟨I.ok.wish E,I.os,I.bare,I.base,I.loc,I.cell,I.free,I.freeC,I.pin,I.hok,I.len⟩
theorem Inv.unwish (I:Inv (X.wish E) pins σ H s):Inv X pins σ H s:=⟨I.ok.unwish,I.os,I.bare,I.base,I.loc,I.cell,I.free,I.freeC,I.pin,I.hok,I.len⟩
theorem SP.unwish {D:Ends} {f:Flow} {s':Shared} (h:SP (X.wish E) pins D f s'):SP X pins D f s':=by
  cases f with
  | next=>obtain ⟨σ',H',I,q⟩:=h; exact ⟨σ',H',I.unwish,q⟩
  | brk=>obtain ⟨σ',H',I,q⟩:=h; exact ⟨σ',H',I.unwish,q⟩
  | cont=>obtain ⟨σ',H',I,q⟩:=h; exact ⟨σ',H',I.unwish,q⟩
  | ret u=>obtain ⟨v,σ',H',I,r,q⟩:=h; exact ⟨v,σ',H',I.unwish,r,q⟩
theorem PSs.nox {st:List Stmt} {t:TS} (h:PSs X.nox st t):PSs X st t:=fun pins s σ H D I hw=>
  wpAny_mono (h pins s σ H D (I.wish _) hw) (fun _ _ q=>q.unwish) fun _ _ z=>False.elim z
end
section
variable {X:Cx} {st:Stmt} {rest:List Stmt} {t u:TS} {e:Expr} {te:TE} {pos:Pos}
noncomputable def tNext:TS:=fun D σ H=>D.nx σ H
noncomputable def tSeq (t u:TS):TS:=fun D σ H=>t { D with nx:=u D } σ H
theorem pss_nil:PSs X [] tNext:=fun _ _ σ H _ I h=>wpAny_execs_nil ⟨σ,H,I,h⟩
theorem pss_cons (h1:PS X st t) (h2:PSs X rest u):PSs X (st :: rest) (tSeq t u):=by
  intro pins s σ H D I h
  refine wpAny_execs_cons (thn (h1 pins s σ H { D with nx:=u D } I h) fun f s1 q=>?_)
  cases f with
  | next=>
    obtain ⟨σ',H',I',q⟩:=q
    exact h2 pins s1 σ' H' D I' q
  | ret v=>exact q
  | brk=>exact q
  | cont=>exact q
theorem pss_one (h1:PS X st t):PSs X [st] t:=by
  intro pins s σ H D I h
  refine wpAny_execs_cons (thn (h1 pins s σ H D I h) fun f s1 q=>?_)
  cases f with
  | next=>exact wpAny_execs_nil q
  | ret v=>exact q
  | brk=>exact q
  | cont=>exact q
theorem Inv.quiet {pins:List (Addr × Obj)} {σ:St} {H:Hp} {s:Shared} (I:Inv X pins σ H s):interactive X.env=false:=by simp [interactive,I.ok.kind]
noncomputable def tDrop (te:TE):TS:=fun D σ H=>te σ H fun _ H1=>D.nx σ H1
theorem ps_expr (he:PE X e te) (hs:swapsWith e none pos.line X.env=pure false:=by rfl):PS X (.Expr e pos) (tDrop te):=by
  intro pins s σ H D I h
  exact wpAny_Expr_any (thn (he pins s σ H _ I h) fun v s1 ⟨x,H1,I1,r1,q1⟩=>⟨σ,H1,I1,q1⟩) I.quiet hs
noncomputable def tRet (te:TE):TS:=fun D σ H=>te σ H D.rt
theorem ps_ret (he:PE X e te):PS X (.Return (some e) pos) (tRet te):=by
  intro pins s σ H D I h
  exact wpAny_Return_some (thn (he pins s σ H _ I h) fun v s1 ⟨x,H1,I1,r1,q1⟩=>⟨x,σ,H1,I1,r1,q1⟩)
noncomputable def tIfS (c:TT) (t u:TS):TS:=fun D σ H=>c σ H fun b H1=>if b=true then t D σ H1 else u D σ H1
theorem ps_if {c:Expr} {a b:List Stmt} {tc:TT} (hc:PT X c tc) (ha:PSs X a t) (hb:PSs X b u):PS X (.If c a b pos) (tIfS tc t u):=by
  intro pins s σ H D I h
  refine wpAny_If (thn (hc pins s σ H _ I h) fun d s1 ⟨H1,I1,q1⟩=>?_)
  cases d with
  | true=>exact ha pins s1 σ H1 D I1 q1
  | false=>exact hb pins s1 σ H1 D I1 q1
end
noncomputable abbrev TG:=V→St→Hp→(St→Hp→Prop)→Prop
noncomputable abbrev TGs:=List V→St→Hp→(St→Hp→Prop)→Prop
noncomputable def PG (X:Cx) (target:Expr) (t:TG):Prop:=
  ∀ (pins:List (Addr × Obj)) (s:Shared) (σ:St) (H:Hp) (v:V) (u:Value) (Q:St→Hp→Prop),Inv X pins σ H s→RelV v u→t v σ H Q→
    wpAny (model X.prog X.w) X.A (assign target X.env u) (fun _ s'=>∃ σ' H',Inv X pins σ' H' s'∧Q σ' H') X.xe s
noncomputable def PGs (X:Cx) (ts:List Expr) (t:TGs):Prop:=
  ∀ (pins:List (Addr × Obj)) (s:Shared) (σ:St) (H:Hp) (vs:List V) (us:List Value) (Q:St→Hp→Prop),Inv X pins σ H s→Vals vs us→t vs σ H Q→
    wpAny (model X.prog X.w) X.A (assignInOrder ((assignEach ts X.env).map (·.2)) us) (fun _ s'=>∃ σ' H',Inv X pins σ' H' s'∧Q σ' H') X.xe s
noncomputable abbrev TSet:=V→V→V→Hp→(Hp→Prop)→Prop
noncomputable def PSet (X:Cx) (t:TSet):Prop:=
  ∀ (pins:List (Addr × Obj)) (s:Shared) (σ:St) (H:Hp) (o i v:V) (ov iv u:Value) (Q:Hp→Prop),Inv X pins σ H s→RelV o ov→RelV i iv→RelV v u→t o i v H Q→
    wpAny (model X.prog X.w) X.A (setItem ov iv u) (fun _ s'=>∃ H',Inv X pins σ H' s'∧Q H') X.xe s
section
variable {X:Cx} {pos:Pos}
noncomputable def gName (i:Nat):TG:=fun v σ H Q=>Q (σ.set i (some v)) H
theorem pg_name {i:Nat} {x:Str} (hN:X.N.Nodup) (hi:X.N[i]?=some x) (hx:Loc X.env.scope x) (hf:X.fn x=true∨X.env.scope.names.lookup x=some .local:=by first | exact .inl rfl | exact .inr rfl | assumption):PG X (.Name x pos) (gName i):=by
  intro pins s σ H v u Q I r h
  exact wpAny_assign_Name (store_ok I hN hi hx r (fun s' I'=>⟨_,H,I',h⟩) hf)
noncomputable def gNil:TGs:=fun vs σ H Q=>vs=[]∧Q σ H
noncomputable def gCons (t:TG) (u:TGs):TGs:=fun vs σ H Q=>∃ v r,vs=v :: r∧t v σ H fun σ' H'=>u r σ' H' Q
theorem pgs_nil:PGs X [] gNil:=by
  intro pins s σ H vs us Q I r h
  obtain ⟨e,h⟩:=h
  subst e
  cases r
  exact assignInOrder_nil ⟨σ,H,I,h⟩
theorem pgs_cons {e:Expr} {es:List Expr} {t:TG} {u:TGs} (h1:PG X e t) (h2:PGs X es u)
    (hs:(assignEach (e :: es) X.env).map (·.2)=assign e X.env :: (assignEach es X.env).map (·.2):=by rfl):PGs X (e :: es) (gCons t u):=by
  intro pins s σ H vs us Q I r h
  obtain ⟨v,vr,e1,h⟩:=h
  subst e1
  cases r with
  | cons r rr=>
    rw [hs]
    refine assignInOrder_cons (thn (h1 pins s σ H _ _ _ I r h) fun _ s1 ⟨σ1,H1,I1,q1⟩=>?_)
    exact h2 pins s1 σ1 H1 _ _ Q I1 rr q1
noncomputable def gTup (K:PySem.W.Frag) (n:Nat) (t:TGs):TG:=fun v σ H Q=>∃ a xs,v=.ref a∧SqT K H a xs∧xs.length=n∧t xs σ H Q
theorem pg_tup {es:List Expr} {k:Nat} {t:TGs} {n:Nat} (hc:X.calm=true) (h:PGs X es t)
    (hn:(assignEach es X.env).length=n:=by rfl) (hst:(assignEach es X.env).findIdx? (·.1)=none:=by rfl):PG X (.Tuple es k pos) (gTup X.K n t):=by
  intro pins s σ H v u Q I r hw
  obtain ⟨a,xs,e1,hq,hl,hw⟩:=hw
  subst e1
  cases r
  obtain ⟨its,rv,ht,hz⟩:=I.tuple hq
  refine assign_Tuple_tuple (I.ok.hd hc) ht (by simp [hn,← hl,rv.length]) hst fun h' hx=>?_
  have I1:Inv X pins σ H { s with heap:=h' }:=I.kept (t':=s.toks) fun b o e=>hx b o (Nat.ne_of_lt (Heap.lt_size e)) e
  exact h pins _ σ H xs _ Q I1 (by simpa using rv) hw
noncomputable def gSub (to ti:TE) (t:TSet):TG:=fun v σ H Q=>to σ H fun o H1=>ti σ H1 fun i H2=>t o i v H2 fun H3=>Q σ H3
theorem pg_sub {o i:Expr} {to ti:TE} {t:TSet} (ho:PE X o to) (hi:PE X i ti) (hs:PSet X t)
    (ha:∀ v,assign (.Subscript o i pos) X.env v=(do
      let ov ← holding [v] (eval o X.env)
      let iv ← holding [v,ov] (eval i X.env)
      standAt pos
      holding [v,ov,iv] (setItem ov iv v)
      release [v,ov,iv] []):=by intro _; rfl):PG X (.Subscript o i pos) (gSub to ti t):=by
  intro pins s σ H v u Q I r h
  rw [ha]
  refine wpAny_bind (wpAny_holding (thn (ho pins s σ H _ I h) fun ov s1 ⟨x,H1,I1,r1,q1⟩=>?_))
  refine wpAny_bind (wpAny_holding (thn (hi pins s1 σ H1 _ I1 q1) fun iv s2 ⟨y,H2,I2,r2,q2⟩=>?_))
  refine wpAny_bind (wpAny_standAt (wpAny_bind (wpAny_holding (thn (hs pins s2 σ H2 x y v ov iv u _ I2 r1 r2 r q2) fun _ s3 ⟨H3,I3,q3⟩=>?_))))
  exact wpAny_release ⟨σ,H3,I3,q3⟩
noncomputable def tAsg (te:TE) (g:TG):TS:=fun D σ H=>te σ H fun x H1=>g x σ H1 D.nx
theorem ps_asg {tg e:Expr} {te:TE} {g:TG} (he:PE X e te) (hg:PG X tg g) (hs:swapsWithSole [tg] e pos.line X.env=pure false:=by rfl) (hw:swappedStores [tg] e X.env=pure none:=by rfl)
    (h1:(assignEach [tg] X.env).map (·.2)=[assign tg X.env]:=by rfl):PS X (.Assign [tg] e pos) (tAsg te g):=by
  intro pins s σ H D I h
  refine wpAny_Assign_stores (thn (he pins s σ H _ I h) fun v s1 ⟨x,H1,I1,r1,q1⟩=>?_) hs hw
  rw [h1]
  exact thn (hg pins s1 σ H1 x v _ I1 r1 q1) fun _ s2 q=>q
theorem ps_set {i:Nat} {x:Str} {e:Expr} {te:TE} {pos':Pos} (hN:X.N.Nodup) (hi:X.N[i]?=some x) (hx:Loc X.env.scope x) (he:PE X e te) (hs:swapsWith e (some (.Name x pos')) pos.line X.env=pure false:=by rfl) (hf:X.fn x=true∨X.env.scope.names.lookup x=some .local:=by first | exact .inl rfl | exact .inr rfl | assumption) :
    PS X (.Assign [.Name x pos'] e pos) (tAsg te (gName i)):=by
  intro pins s σ H D I h
  refine wpAny_Assign_Name (thn (he pins s σ H _ I h) fun v s1 ⟨y,H1,I1,r1,q1⟩=>?_) hs
  exact store_ok I1 hN hi hx r1 (fun s2 I2=>⟨_,H1,I2,q1⟩) hf
end
section
variable {X:Cx} {pos:Pos}
noncomputable def tWhile (c:TT) (tb:TS):TS:=fun D σ H=>∃ W:Nat→St→Hp→Prop,(∃ m,W m σ H)∧∀ m σ H,W m σ H→
  c σ H fun b H1=>if b=true then ∃ N:St→Hp→Prop,(∀ σ' H',N σ' H'→∃ m',m' < m∧W m' σ' H')∧tb { D with nx:=N,ct:=N,bk:=D.nx } σ H1 else D.nx σ H1
theorem ps_while {c:Expr} {body:List Stmt} {tc:TT} {tb:TS} (hp:PassesOwn (model X.prog X.w) X.A X.env X.xe) (hc:PT X c tc) (hb:PSs X body tb):PS X (.While c body [] pos) (tWhile tc tb):=by
  intro pins s σ H D I h
  obtain ⟨W,⟨m0,w0⟩,turn⟩:=h
  refine wpAny_While (codeAny_whileLoop (fun n s'=>∃ σ' H',Inv X pins σ' H' s'∧W n σ' H') ?_ m0 ⟨σ,H,I,w0⟩)
  rintro n s1 ⟨σ1,H1,I1,w1⟩
  refine wpAny_passesOwn hp (thn (hc pins s1 σ1 H1 _ I1 (turn n σ1 H1 w1)) fun b s2 ⟨H2,I2,q2⟩=>?_)
  cases b with
  | true=>
    obtain ⟨N,hN,q2⟩:=q2
    rw [if_pos rfl]
    refine wpAny_passesOwn hp (thn (hb pins s2 σ1 H2 _ I2 q2) fun f s3 q3=>?_)
    cases f with
    | next=>
      obtain ⟨σ3,H3,I3,n3⟩:=q3
      obtain ⟨m',hm,w3⟩:=hN σ3 H3 n3
      exact ⟨m',hm,σ3,H3,I3,w3⟩
    | cont=>
      obtain ⟨σ3,H3,I3,n3⟩:=q3
      obtain ⟨m',hm,w3⟩:=hN σ3 H3 n3
      exact ⟨m',hm,σ3,H3,I3,w3⟩
    | brk=>exact q3
    | ret v=>exact q3
  | false=>
    rw [if_neg Bool.false_ne_true]
    exact wpAny_execs_nil ⟨σ1,H2,I2,q2⟩
end
structure It where
  go:Nat→Hp→Prop
  yld:Nat→Hp→V→Hp→Prop
  stop:Nat→Hp→Prop
noncomputable def FpOk (X:Cx) (pins:List (Addr × Obj)) (H:Hp) (b:Addr):Prop:=
  H b=none∧b ≠ X.env.locals∧b ∉ X.fs∧(b ∈ X.ex∨X.s₀.heap.objs.size ≤ b)∧(∀ x c,X.env.cells.lookup x=some c→c ≠ b)∧∀ p ∈ X.pn ++ pins,p.1 ≠ b
theorem Inv.fpOk {X:Cx} {pins:List (Addr × Obj)} {σ:St} {H H':Hp} {s:Shared} {b:Addr} (I:Inv X pins σ H s) (hb:s.heap.objs.size ≤ b) (hn:H' b=none):FpOk X pins H' b:=by
  refine ⟨hn,Nat.ne_of_gt (Nat.lt_of_lt_of_le I.lt hb),I.nofs hb,.inr (Nat.le_trans I.sz hb),fun x c e z=>?_,fun p hp z=>?_⟩
  · obtain ⟨v,q⟩:=I.cell x c e
    exact absurd (Nat.lt_of_lt_of_le q.lt (by rw [z]; exact hb)) (Nat.lt_irrefl _)
  · exact absurd (Nat.lt_of_lt_of_le (Heap.lt_size (I.pin p hp).1) (by rw [z]; exact hb)) (Nat.lt_irrefl _)
structure Turn (P:Program) (w:World) (K:PySem.W.Frag) (tg:Expr) (J:It) (fp:List Addr) (it:Addr) (tn:Nat→Heap→Prop):Prop where
  mem:it ∈ fp
  obj:∀ i h,tn i h→∀ b ∈ fp,∃ o,h.get? b=some o∧∀ v,o.data ≠ .cell v
  keep:∀ i h h',tn i h→(∀ b ∈ fp,∀ o,h.get? b=some o→h'.get? b=some o)→tn i h'
  item:∀ (X:Cx),X.prog=P→X.w=w→X.K=K→X.calm=true→∀ (i:Nat) (pins:List (Addr × Obj)) (s:Shared) (σ:St) (H:Hp) (E:Value→Shared→Prop),Inv X pins σ H s→(∀ b ∈ fp,FpOk X pins H b)→tn i s.heap→J.go i H→
    wpAny (model P w) X.A (pyNext (.ref it)) (fun r s1=>∃ u,r=some u∧
      wpAny (model P w) X.A (letOwnedTupleGo tg (.ref it) u) (fun _ s2=>∃ x H',Inv X pins σ H' s2∧RelV x u∧J.yld i H x H'∧tn (i + 1) s2.heap∧∀ b ∈ fp,H' b=none) E s1) E s
  done:∀ (X:Cx),X.prog=P→X.w=w→X.K=K→X.calm=true→∀ (i:Nat) (pins:List (Addr × Obj)) (s:Shared) (σ:St) (H:Hp) (E:Value→Shared→Prop),Inv X pins σ H s→(∀ b ∈ fp,FpOk X pins H b)→tn i s.heap→J.stop i H→
    wpAny (model P w) X.A (pyNext (.ref it)) (fun r s1=>r=none∧Inv X pins σ H s1) E s
  self:∀ (A:Around) (i:Nat) (s:Shared) (Q:Value→Shared→Prop) (E:Value→Shared→Prop),tn i s.heap→Q (.ref it) s→wpAny (model P w) A (pyIter (.ref it)) Q E s
noncomputable abbrev TI:=St→Hp→(It→Hp→Prop)→Prop
noncomputable def PIE (X:Cx) (pins:List (Addr × Obj)) (σ:St) (tg:Expr) (R:It→Hp→Prop) (itv:Value) (s2:Shared):Prop:=
  ∃ (it:Addr) (fp:List Addr) (tn:Nat→Heap→Prop) (J:It) (H':Hp),itv=.ref it∧Inv X pins σ H' s2∧Turn X.prog X.w X.K tg J fp it tn∧tn 0 s2.heap∧(∀ b ∈ fp,FpOk X pins H' b)∧R J H'
noncomputable def PI (X:Cx) (tg iter:Expr) (wi:TI):Prop:=
  ∀ (pins:List (Addr × Obj)) (s:Shared) (σ:St) (H:Hp) (R:It→Hp→Prop),Inv X pins σ H s→wi σ H R→
    wpAny (model X.prog X.w) X.A (eval iter X.env) (fun v s1=>wpAny (model X.prog X.w) X.A (pyIter v) (PIE X pins σ tg R) X.xe s1) X.xe s
theorem go_of {M:Model} {A:Around} {E:Value→Shared→Prop} {s:Shared} {tg:Expr} {it:Addr} {u:Value} {o:Obj} {n:String} {vs:Array Value} {Q:Unit→Shared→Prop} (ho:s.heap.get? it=some o) (hc:o.cls=.type n) (hd:o.data=.fields vs)
    (hn:["enumerate", "zip", "dict_itemiterator", "dict_reverseitemiterator", "odict_iterator", "itertools.zip_longest", "itertools.pairwise"].contains n=false) (hQ:Q () s):wpAny M A (letOwnedTupleGo tg (.ref it) u) Q E s:=by
  unfold letOwnedTupleGo
  cases tg <;> first
    | exact wpAny_pure hQ
    | (cases u <;> first
        | exact wpAny_pure hQ
        | (refine wpAny_bind (wpAny_load ho ?_)
           rw [hc,hd]
           show wpAny M A (if (["enumerate", "zip", "dict_itemiterator", "dict_reverseitemiterator", "odict_iterator", "itertools.zip_longest", "itertools.pairwise"].contains n && vs[0]? == some (rawInt _))=true then _ else _) Q E s
           rw [if_neg (by intro h; rw [hn,Bool.false_and] at h; cases h)]
           exact wpAny_pure hQ))
noncomputable def Itl (K:PySem.W.Frag) (a:Addr):It:=
  ⟨fun i H=>∃ xs x,SqL K H a xs∧xs[i]?=some x,fun i H x H'=>H'=H∧∀ xs,SqL K H a xs→xs[i]?=some x,fun i H=>∃ xs,SqL K H a xs∧xs.length ≤ i⟩
noncomputable def Itt (K:PySem.W.Frag) (a:Addr):It:=
  ⟨fun i H=>∃ xs x,SqT K H a xs∧xs[i]?=some x,fun i H x H'=>H'=H∧∀ xs,SqT K H a xs→xs[i]?=some x,fun i H=>∃ xs,SqT K H a xs∧xs.length ≤ i⟩
noncomputable def Itr (lo:Int) (n:Nat):It:=⟨fun i _=>i < n,fun i H x H'=>H'=H∧x=.int (lo + i),fun i _=>n ≤ i⟩
theorem turn_list {P:Program} {w:World} {K:PySem.W.Frag} {tg:Expr} (a it:Addr):Turn P w K tg (Itl K a) [it] it (fun i h=>h.IsListIter it a i) where
  mem:=by simp
  obj:=fun i h st b hb=>by
    have e:b=it:=by simpa using hb
    subst e
    obtain ⟨o,e,c,d⟩:=st
    exact ⟨o,e,fun v z=>by rw [d] at z; cases z⟩
  keep:=fun i h h' st k=>st.at fun o e=>k it (by simp) o e
  item:=by
    intro X hP hw hK hc i pins s σ H E I hf st hg
    subst hP hw hK
    obtain ⟨xs,x,hq,hx⟩:=hg
    obtain ⟨its,rv,p,hz⟩:=I.list hq
    obtain ⟨u,hu,ru⟩:=rv.get hx
    obtain ⟨f0,f1,f2,f3,f4,f5⟩:=hf it (by simp)
    refine wpAny_pyNext_list_item st p.isList (x:=u) (by simpa using hu) fun h' st' sb=>?_
    have I1:Inv X pins σ H { s with heap:=h' }:=I.turned (t':=s.toks) (fun b o hb e=>(sb.2 b hb).trans e) f0 f1 f3 f4 f5
    obtain ⟨o,e,c,d⟩:=id st'
    exact ⟨u,rfl,go_of (s:={ s with heap:=h' }) e c d (by decide) ⟨x,H,I1,ru,⟨rfl,fun ys hy=>by rw [I.list_inj hy hq]; exact hx⟩,st',fun b hb=>(hf b hb).1⟩⟩
  done:=by
    intro X hP hw hK hc i pins s σ H E I hf st hg
    subst hP hw hK
    obtain ⟨xs,hq,hx⟩:=hg
    obtain ⟨its,rv,p,hz⟩:=I.list hq
    obtain ⟨f0,f1,f2,f3,f4,f5⟩:=hf it (by simp)
    have hl:=rv.length
    exact wpAny_pyNext_list_end (I.ok.hd hc) st p.isList (by simp; omega) fun h' eb=>⟨rfl,I.turned (t':=s.toks) (fun b o hb e=>eb b o hb e) f0 f1 f3 f4 f5⟩
  self:=fun _ _ _ _ _ st h=>wpAny_pyIter_listiter st h
theorem turn_tuple {P:Program} {w:World} {K:PySem.W.Frag} {tg:Expr} (a it:Addr):Turn P w K tg (Itt K a) [it] it (fun i h=>h.IsTupleIter it a i) where
  mem:=by simp
  obj:=fun i h st b hb=>by
    have e:b=it:=by simpa using hb
    subst e
    obtain ⟨o,e,c,d⟩:=st
    exact ⟨o,e,fun v z=>by rw [d] at z; cases z⟩
  keep:=fun i h h' st k=>st.at fun o e=>k it (by simp) o e
  item:=by
    intro X hP hw hK hc i pins s σ H E I hf st hg
    subst hP hw hK
    obtain ⟨xs,x,hq,hx⟩:=hg
    obtain ⟨its,rv,p,hz⟩:=I.tuple hq
    obtain ⟨u,hu,ru⟩:=rv.get hx
    obtain ⟨f0,f1,f2,f3,f4,f5⟩:=hf it (by simp)
    refine wpAny_pyNext_tuple_item st (show s.heap.IsTuple a its.toArray from p) (x:=u) (by simpa using hu) fun h' st' sb=>?_
    have I1:Inv X pins σ H { s with heap:=h' }:=I.turned (t':=s.toks) (fun b o hb e=>(sb.2 b hb).trans e) f0 f1 f3 f4 f5
    obtain ⟨o,e,c,d⟩:=id st'
    exact ⟨u,rfl,go_of (s:={ s with heap:=h' }) e c d (by decide) ⟨x,H,I1,ru,⟨rfl,fun ys hy=>by rw [I.tuple_inj hy hq]; exact hx⟩,st',fun b hb=>(hf b hb).1⟩⟩
  done:=by
    intro X hP hw hK hc i pins s σ H E I hf st hg
    subst hP hw hK
    obtain ⟨xs,hq,hx⟩:=hg
    obtain ⟨its,rv,p,hz⟩:=I.tuple hq
    obtain ⟨f0,f1,f2,f3,f4,f5⟩:=hf it (by simp)
    have hl:=rv.length
    exact wpAny_pyNext_tuple_end (I.ok.hd hc) st (show s.heap.IsTuple a its.toArray from p) (by simp; omega) fun h' eb=>⟨rfl,I.turned (t':=s.toks) (fun b o hb e=>eb b o hb e) f0 f1 f3 f4 f5⟩
  self:=fun _ _ _ _ _ st h=>wpAny_pyIter_tupleiter st h
theorem turn_range {P:Program} {w:World} {K:PySem.W.Frag} {tg:Expr} (it:Addr) (lo:Int) (n:Nat):Turn P w K tg (Itr lo n) [it] it (fun i h=>IsRangeIter h it (lo + (i:Nat) * 1) ((n:Int) - (i:Nat)) 1) where
  mem:=by simp
  obj:=fun i h st b hb=>by
    have e:b=it:=by simpa using hb
    subst e
    exact ⟨_,st,fun v z=>by
      have z':Data.fields _=Data.cell v:=z
      cases z'⟩
  keep:=fun i h h' st k=>k it (by simp) _ st
  item:=by
    intro X hP hw hK hc i pins s σ H E I hf st hg
    subst hP hw hK
    obtain ⟨f0,f1,f2,f3,f4,f5⟩:=hf it (by simp)
    have W:=Walks.range (prog:=X.prog) (w:=X.w) (I.ok.hd hc) it lo 1 n
    refine W.item i s _ _ hg st fun v h' tk hv st' kk=>?_
    obtain ⟨t,rfl⟩:=hv
    have I1:Inv X pins σ H { s with heap:=h',toks:=tk }:=I.turned (fun b o hb e=>kk b o (by simpa using hb) e) f0 f1 f3 f4 f5
    refine ⟨_,rfl,go_of (s:={ s with heap:=h',toks:=tk }) (n := "range_iterator") st' rfl rfl (by decide) ⟨.int (lo + i),H,I1,⟨t,?_⟩,⟨rfl,rfl⟩,st',fun b hb=>(hf b hb).1⟩⟩
    rw [Int.mul_one]
  done:=by
    intro X hP hw hK hc i pins s σ H E I hf st hg
    subst hP hw hK
    obtain ⟨f0,f1,f2,f3,f4,f5⟩:=hf it (by simp)
    exact wpAny_pyNext_range_end (I.ok.hd hc) st (by have:n ≤ i:=hg; omega) fun h' eb=>⟨rfl,I.turned (t':=s.toks) (fun b o hb e=>eb b o hb e) f0 f1 f3 f4 f5⟩
  self:=fun _ _ _ _ _ st h=>wpAny_pyIter_rangeiter st h
end L2
namespace L2
open PySem PySem.Spec PyProof.Rows
section
variable {X:Cx} {tg:Expr}
theorem range_it {pins:List (Addr × Obj)} {σ:St} {H:Hp} {s:Shared} {R:It→Hp→Prop} {E:Value→Shared→Prop} {lo hi:Int} {t u v:Tok} {tk:Nat} (I:Inv X pins σ H s) (h1:-(2 ^ 62) ≤ lo) (h2:lo < 2 ^ 62) (h3:-(2 ^ 62) ≤ hi) (h4:hi < 2 ^ 62)
    (q:R (Itr lo (hi - lo).toNat) H):wpAny (model X.prog X.w) X.A (pyIter (.ref s.heap.objs.size)) (PIE X pins σ tg R) E { s with heap:=s.heap.push { cls:=.type "range",data:=.fields #[.int lo t,.int hi u,.int 1 v] },toks:=tk }:=by
  refine wpAny_pyIter_range (IsRange.new ..) (small_one h1 h2 h3 h4) ?_
  have I1:Inv X pins σ H { s with heap:=s.heap.push { cls:=.type "range",data:=.fields #[.int lo t,.int hi u,.int 1 v] },toks:=tk }:=I.kept fun b o e=>Heap.get?_push_of_some _ e
  refine ⟨(s.heap.push { cls:=.type "range",data:=.fields #[.int lo t,.int hi u,.int 1 v] }).objs.size,[(s.heap.push { cls:=.type "range",data:=.fields #[.int lo t,.int hi u,.int 1 v] }).objs.size],_,_,H,rfl,
    I1.kept (t':=tk) fun b o e=>Heap.get?_push_of_some _ e,turn_range _ lo (hi - lo).toNat,?_,fun b hb=>?_,q⟩
  · have e1:lo + ((0:Nat):Int) * 1=lo:=by simp
    have e2:(((hi - lo).toNat:Nat):Int) - ((0:Nat):Int)=Builtin.Range.rangeSize lo hi 1:=by rw [rangeSize_one]; split <;> omega
    show IsRangeIter _ _ (lo + ((0:Nat):Int) * 1) ((((hi - lo).toNat:Nat):Int) - ((0:Nat):Int)) 1
    rw [e1,e2]
    exact Heap.get?_push_size _ rfl
  · have e:b=(s.heap.push { cls:=.type "range",data:=.fields #[.int lo t,.int hi u,.int 1 v] }).objs.size:=by simpa using hb
    subst e
    exact I1.fpOk (Nat.le_refl _) (I1.hok.fresh (Nat.le_refl _))
noncomputable def iRng1 (ta:TA):TI:=fun σ H R=>ta σ H fun vs H1=>∃ j:Int,vs=[.int j]∧-(2 ^ 62) ≤ j∧j < 2 ^ 62∧R (Itr 0 j.toNat) H1
noncomputable def iRng2 (ta:TA):TI:=fun σ H R=>ta σ H fun vs H1=>∃ i j:Int,vs=[.int i,.int j]∧(-(2 ^ 62) ≤ i∧i < 2 ^ 62∧-(2 ^ 62) ≤ j∧j < 2 ^ 62)∧R (Itr i (j - i).toNat) H1
theorem pi_range1 {a:Expr} {ta:TA} {p pos:Pos} (hg:Gl X "range") (hm:X.mg "range" = none) (ha:PA X [a] ta) (hs:starEach [a] X.env=[(false,eval a X.env)]:=by rfl):PI X tg (.Call (.Name "range" p) [a] [] pos) (iRng1 ta):=by
  intro pins s σ H R I h
  refine Call_ (ld_blt I hg hm boot_range (PyProof.Rows.callWith_type1 (thn (ha pos pins s σ H _ I h) fun us s1 ⟨vs,H1,I1,r1,q1⟩=>?_) hs rfl))
  obtain ⟨j,e,q1,q2,q⟩:=q1
  subst e
  cases r1 with
  | cons r rr=>
    cases rr
    obtain ⟨t,rfl⟩:=r
    exact call_range_1 (range_it I1 (by omega) (by omega) q1 q2 (by simpa using q))
theorem pi_range2 {a b:Expr} {ta:TA} {p pos:Pos} (hg:Gl X "range") (hm:X.mg "range" = none) (ha:PA X [a,b] ta) (hs:starEach [a,b] X.env=[(false,eval a X.env),(false,eval b X.env)]:=by rfl) (hs2:starEach [b] X.env=[(false,eval b X.env)]:=by rfl) :
    PI X tg (.Call (.Name "range" p) [a,b] [] pos) (iRng2 ta):=by
  intro pins s σ H R I h
  refine Call_ (ld_blt I hg hm boot_range (PyProof.Rows.callWith_type1 (thn (ha pos pins s σ H _ I h) fun us s1 ⟨vs,H1,I1,r1,q1⟩=>?_) (by rw [hs,hs2]) (by rw [hs2]; rfl)))
  obtain ⟨i,j,e,⟨q1,q2,q3,q4⟩,q⟩:=q1
  subst e
  cases r1 with
  | cons r rr=>
    cases rr with
    | cons r' rr=>
      cases rr
      obtain ⟨t,rfl⟩:=r
      obtain ⟨t',rfl⟩:=r'
      exact call_range_2 (range_it I1 q1 q2 q3 q4 q)
noncomputable def tFor (wi:TI) (g:TG) (tb:TS):TS:=fun D σ H=>wi σ H fun J H1=>∃ W:Nat→Nat→St→Hp→Prop,(∃ m,W 0 m σ H1)∧∀ i m σ H,W i m σ H→
  (J.stop i H∧D.nx σ H)∨(J.go i H∧∃ N:St→Hp→Prop,(∀ σ' H',N σ' H'→∃ m',m' < m∧W (i + 1) m' σ' H')∧∀ x H',J.yld i H x H'→g x σ H' fun σ2 H2=>tb { D with nx:=N,ct:=N,bk:=D.nx } σ2 H2)
noncomputable def pinsAt (fp:List Addr) (h:Heap):List (Addr × Obj):=fp.filterMap fun b=>(h.get? b).map fun o=>(b,o)
theorem mem_pinsAt {fp:List Addr} {h:Heap} {b:Addr} {o:Obj} (hb:b ∈ fp) (e:h.get? b=some o):(b,o) ∈ pinsAt fp h:=List.mem_filterMap.mpr ⟨b,hb,by rw [e]; rfl⟩
theorem of_pinsAt {fp:List Addr} {h:Heap} {p:Addr × Obj} (hp:p ∈ pinsAt fp h):p.1 ∈ fp∧h.get? p.1=some p.2:=by
  obtain ⟨b,hb,e⟩:=List.mem_filterMap.mp hp
  cases q:h.get? b with
  | none=>rw [q] at e; cases e
  | some o=>
    rw [q] at e
    have e':(b,o)=p:=Option.some.inj e
    subst e'
    exact ⟨hb,q⟩
theorem Inv.pinned {pins:List (Addr × Obj)} {σ:St} {H:Hp} {s:Shared} {fp:List Addr} (I:Inv X pins σ H s) (hf:∀ b ∈ fp,FpOk X pins H b) (ho:∀ b ∈ fp,∃ o,s.heap.get? b=some o∧∀ v,o.data ≠ .cell v):Inv X (pins ++ pinsAt fp s.heap) σ H s:=
  I.pins_of fun p hp=>(List.mem_append.mp hp).elim (fun z=>I.pin p (List.mem_append_right _ z)) fun z=>by
    obtain ⟨hb,e⟩:=of_pinsAt z
    obtain ⟨f0,f1,f2,_⟩:=hf p.1 hb
    obtain ⟨o,e',d⟩:=ho p.1 hb
    rw [e] at e'; cases e'
    exact ⟨e,f0,f1,f2,d⟩
theorem Inv.unpinned {pins pl:List (Addr × Obj)} {σ:St} {H:Hp} {s:Shared} (I:Inv X (pins ++ pl) σ H s):Inv X pins σ H s:=I.pins_of fun p hp=>I.pin p (List.mem_append_right _ (List.mem_append_left _ hp))
theorem ps_for {iter:Expr} {body:List Stmt} {wi:TI} {g:TG} {tb:TS} {pos:Pos} (hp:PassesOwn (model X.prog X.w) X.A X.env X.xe) (hc:X.calm=true) (hi:PI X tg iter wi) (hg:PG X tg g) (hb:PSs X body tb)
    (hs:∀ x,foldedSetIterable iter X.env x=pure x:=by intro _; rfl):PS X (.For tg iter body [] pos) (tFor wi g tb):=by
  intro pins s σ H D I h
  refine wpAny_For (thn (hi pins s σ H _ I h) fun v s1 h1=>thn h1 fun itv s2 h2=>?_) hs
  obtain ⟨it,fp,tn,J,H2,e,I2,T,st2,f2,W,⟨m0,w0⟩,turn⟩:=h2
  subst e
  -- what stays true of the iterator's objects through the loop
  have stat:∀ {H':Hp},(∀ b ∈ fp,H' b=none)→∀ b ∈ fp,FpOk X pins H' b:=fun hn b hb=>⟨hn b hb,(f2 b hb).2⟩
  refine codeAny_forLoop_any (fun n s'=>∃ i σ' H',Inv X pins σ' H' s'∧tn i s'.heap∧(∀ b ∈ fp,H' b=none)∧W i n σ' H') ?_ m0 ⟨0,σ,H2,I2,st2,fun b hb=>(f2 b hb).1,w0⟩
  rintro n s3 ⟨i,σ3,H3,I3,st3,fr3,w3⟩
  rcases turn i n σ3 H3 w3 with ⟨stop,qn⟩ | ⟨go,N,hN,step⟩
  · refine wpAny_passesOwn hp (thn (T.done X rfl rfl rfl hc i pins s3 σ3 H3 X.xe I3 (stat fr3) st3 stop) fun r s4 ⟨hr,I4⟩=>?_)
    subst hr
    exact wpAny_execs_nil ⟨σ3,H3,I4,qn⟩
  · refine wpAny_passesOwn hp (thn (T.item X rfl rfl rfl hc i pins s3 σ3 H3 X.xe I3 (stat fr3) st3 go) fun r s4 ⟨u,hr,h4⟩=>?_)
    subst hr
    refine wpAny_passesOwn hp (thn h4 fun _ s5 ⟨x,H5,I5,r5,y5,st5,fr5⟩=>?_)
    have I5':=I5.pinned (stat fr5) (T.obj _ _ st5)
    refine wpAny_passesOwn hp (thn (hg _ s5 σ3 H5 x u _ I5' r5 (step x H5 y5)) fun _ s6 ⟨σ6,H6,I6,q6⟩=>?_)
    refine wpAny_passesOwn hp (thn (hb _ s6 σ6 H6 _ I6 q6) fun f s7 q7=>?_)
    have again:∀ {σ7:St} {H7:Hp},Inv X (pins ++ pinsAt fp s5.heap) σ7 H7 s7→N σ7 H7→∃ m,m < n∧∃ i σ' H',Inv X pins σ' H' s7∧tn i s7.heap∧(∀ b ∈ fp,H' b=none)∧W i m σ' H':=fun {σ7 H7} I7 n7=>by
      obtain ⟨m',hm,w7⟩:=hN σ7 H7 n7
      refine ⟨m',hm,i + 1,σ7,H7,I7.unpinned,T.keep _ _ _ st5 fun b hb o e=>(I7.pin (b,o) (List.mem_append_right _ (List.mem_append_right _ (mem_pinsAt hb e)))).1,fun b hb=>?_,w7⟩
      obtain ⟨o,e,d⟩:=T.obj _ _ st5 b hb
      exact (I7.pin (b,o) (List.mem_append_right _ (List.mem_append_right _ (mem_pinsAt hb e)))).2.1
    cases f with
    | next=>obtain ⟨σ7,H7,I7,n7⟩:=q7; exact again I7 n7
    | cont=>obtain ⟨σ7,H7,I7,n7⟩:=q7; exact again I7 n7
    | brk=>obtain ⟨σ7,H7,I7,q7⟩:=q7; exact ⟨σ7,H7,I7.unpinned,q7⟩
    | ret v=>obtain ⟨x7,σ7,H7,I7,r7,q7⟩:=q7; exact ⟨x7,σ7,H7,I7.unpinned,r7,q7⟩
end
end L2
namespace L2
open PySem PySem.Spec PyProof.Rows
noncomputable abbrev R2:=V→V→Hp→VK→Prop
noncomputable def OpR (X:Cx) (f:Value→Value→Sem Value) (r:R2):Prop:=
  ∀ (pins:List (Addr × Obj)) (s:Shared) (σ:St) (H:Hp) (x y:V) (v u:Value) (Q:VK),Inv X pins σ H s→RelV x v→RelV y u→r x y H Q→
    wpAny (model X.prog X.w) X.A (f v u) (EP X pins σ Q) X.xe s
noncomputable def UnR (X:Cx) (f:Value→Sem Value) (r:V→Hp→VK→Prop):Prop:=
  ∀ (pins:List (Addr × Obj)) (s:Shared) (σ:St) (H:Hp) (x:V) (v:Value) (Q:VK),Inv X pins σ H s→RelV x v→r x H Q→
    wpAny (model X.prog X.w) X.A (f v) (EP X pins σ Q) X.xe s
noncomputable def CallR (X:Cx) (f:Value) (r:List V→Hp→VK→Prop):Prop:=
  ∀ (pins:List (Addr × Obj)) (s:Shared) (σ:St) (H:Hp) (xs:List V) (us:List Value) (Q:VK),Inv X pins σ H s→Vals xs us→r xs H Q→
    wpAny (model X.prog X.w) X.A (call f us) (EP X pins σ Q) X.xe s
noncomputable def tOp (r:R2) (ta tb:TE):TE:=fun σ H Q=>ta σ H fun x H1=>tb σ H1 fun y H2=>r x y H2 Q
noncomputable def tUn (r:V→Hp→VK→Prop) (ta:TE):TE:=fun σ H Q=>ta σ H fun x H1=>r x H1 Q
noncomputable def rI (C:Int→Int→Prop) (g:Int→Int→V):R2:=fun x y H Q=>∃ i j,x=.int i∧y=.int j∧C i j∧Q (g i j) H
noncomputable def rI0 (g:Int→Int→V):R2:=fun x y H Q=>∃ i j,x=.int i∧y=.int j∧Q (g i j) H
noncomputable def rU (g:Int→V):V→Hp→VK→Prop:=fun x H Q=>∃ i,x=.int i∧Q (g i) H
section
variable {X:Cx} {a b c:Expr} {ta tb tc:TE} {pos:Pos}
theorem binT (ha:PE X a ta) (hb:PE X b tb) {pins:List (Addr × Obj)} {s:Shared} {σ:St} {H:Hp} {R:V→V→Hp→Prop} (I:Inv X pins σ H s)
    (h:ta σ H fun x H1=>tb σ H1 fun y H2=>R x y H2) {Q:Value→Shared→Prop} {f:Value→Value→Sem Value}
    (hf:∀ v u s2 x y H2,Inv X pins σ H2 s2→RelV x v→RelV y u→R x y H2→wpAny (model X.prog X.w) X.A (f v u) Q X.xe s2) :
    wpAny (model X.prog X.w) X.A (eval a X.env) (fun v s₁=>wpAny (model X.prog X.w) X.A (eval b X.env) (fun u s₂=>wpAny (model X.prog X.w) X.A (f v u) Q X.xe s₂) X.xe s₁) X.xe s:=by
  refine thn (ha pins s σ H _ I h) fun v s1 ⟨x,H1,I1,r1,q1⟩=>?_
  refine thn (hb pins s1 σ H1 _ I1 q1) fun u s2 ⟨y,H2,I2,r2,q2⟩=>?_
  exact hf v u s2 x y H2 I2 r1 r2 q2
theorem pe_op {op:Operator} {r:R2} (ho:OpR X (binaryOp op) r) (ha:PE X a ta) (hb:PE X b tb):PE X (.BinOp a op b pos) (tOp r ta tb):=by
  intro pins s σ H Q I h
  exact wpAny_BinOp (binT ha hb I h fun v u s2 x y H2 I2 rx ry q=>ho pins s2 σ H2 x y v u Q I2 rx ry q)
theorem pe_un {op:UnaryOp} {r:V→Hp→VK→Prop} (ho:UnR X (unaryOp op) r) (ha:PE X a ta):PE X (.UnaryOp op a pos) (tUn r ta):=by
  intro pins s σ H Q I h
  exact UnaryOp_ (thn (ha pins s σ H _ I h) fun v s1 ⟨x,H1,I1,r1,q1⟩=>ho pins s1 σ H1 x v Q I1 r1 q1)
theorem opI {f:Value→Value→Sem Value} {C:Int→Int→Prop} {g:Int→Int→Int}
    (rule:∀ (i j:Int) (t u:Tok) (s:Shared) (Q:Value→Shared→Prop) (E:Value→Shared→Prop),C i j→Q (.int (g i j) s.toks) { s with toks:=s.toks + 1 }→wpAny (model X.prog X.w) X.A (f (.int i t) (.int j u)) Q E s) :
    OpR X f (rI C fun i j=>.int (g i j)):=by
  intro pins s σ H x y v u Q I rx ry h
  obtain ⟨i,j,rfl,rfl,hc,q⟩:=h
  obtain ⟨t,rfl⟩:=rx
  obtain ⟨t',rfl⟩:=ry
  exact rule i j t t' s _ _ hc ⟨.int (g i j),H,I.tok _,⟨_,rfl⟩,q⟩
theorem opI0 {f:Value→Value→Sem Value} {g:Int→Int→Int}
    (rule:∀ (i j:Int) (t u:Tok) (s:Shared) (Q:Value→Shared→Prop) (E:Value→Shared→Prop),Q (.int (g i j) s.toks) { s with toks:=s.toks + 1 }→wpAny (model X.prog X.w) X.A (f (.int i t) (.int j u)) Q E s) :
    OpR X f (rI0 fun i j=>.int (g i j)):=by
  intro pins s σ H x y v u Q I rx ry h
  obtain ⟨i,j,rfl,rfl,q⟩:=h
  obtain ⟨t,rfl⟩:=rx
  obtain ⟨t',rfl⟩:=ry
  exact rule i j t t' s _ _ ⟨.int (g i j),H,I.tok _,⟨_,rfl⟩,q⟩
theorem opB0 {f:Value→Value→Sem Value} {g:Int→Int→Bool}
    (rule:∀ (i j:Int) (t u:Tok) (s:Shared) (Q:Value→Shared→Prop) (E:Value→Shared→Prop),Q (.bool (g i j)) s→wpAny (model X.prog X.w) X.A (f (.int i t) (.int j u)) Q E s) :
    OpR X f (rI0 fun i j=>.bl (g i j)):=by
  intro pins s σ H x y v u Q I rx ry h
  obtain ⟨i,j,rfl,rfl,q⟩:=h
  obtain ⟨t,rfl⟩:=rx
  obtain ⟨t',rfl⟩:=ry
  exact rule i j t t' s _ _ ⟨.bl (g i j),H,I,rfl,q⟩
noncomputable def CDiv (i j:Int):Prop:=0 < j∧j < 1073741824
noncomputable def CMul (i j:Int):Prop:=(-(2 ^ 64) < i∧i < 2 ^ 64)∨(-(2 ^ 64) < j∧j < 2 ^ 64)
theorem CMul.ok {i j:Int} (h:CMul i j):IntMulOk i j:=by
  rcases h with ⟨h1,h2⟩ | ⟨h1,h2⟩
  · exact .of_left (intBits_le_64 h1 h2)
  · exact .of_right (intBits_le_64 h1 h2)
theorem op_add:OpR X (binaryOp .Add) (rI0 fun i j=>.int (i + j)):=opI0 fun _ _ _ _ _ _ _ q=>add_int q
theorem op_sub:OpR X (binaryOp .Sub) (rI0 fun i j=>.int (i - j)):=opI0 fun _ _ _ _ _ _ _ q=>sub_int q
theorem op_mul:OpR X (binaryOp .Mult) (rI CMul fun i j=>.int (i * j)):=opI fun _ _ _ _ _ _ _ hc q=>mul_int q hc.ok
theorem op_fdiv:OpR X (binaryOp .FloorDiv) (rI CDiv fun i j=>.int (i / j)):=opI fun i j _ _ _ _ _ hc q=>by
  have h1:(0:Int) < j:=hc.1
  have h2:j < 1073741824:=hc.2
  exact floordiv_int (by omega) (by rw [Int.fdiv_eq_ediv_of_nonneg i (by omega)]; exact q) (.inl (PyProof.noPylong_small (by omega)))
theorem op_mod:OpR X (binaryOp .Mod) (rI (fun _ j=>0 < j) fun i j=>.int (i % j)):=opI fun i j _ _ _ _ _ hc q=>by
  have h1:(0:Int) < j:=hc
  exact mod_int' (by omega) (by rw [Int.fmod_eq_emod_of_nonneg i (by omega)]; exact q)
theorem unI {f:Value→Sem Value} {g:Int→Int}
    (rule:∀ (i:Int) (t:Tok) (s:Shared) (Q:Value→Shared→Prop) (E:Value→Shared→Prop),Q (.int (g i) s.toks) { s with toks:=s.toks + 1 }→wpAny (model X.prog X.w) X.A (f (.int i t)) Q E s) :
    UnR X f (rU fun i=>.int (g i)):=by
  intro pins s σ H x v Q I rx h
  obtain ⟨i,rfl,q⟩:=h
  obtain ⟨t,rfl⟩:=rx
  exact rule i t s _ _ ⟨.int (g i),H,I.tok _,⟨_,rfl⟩,q⟩
theorem un_neg:UnR X (unaryOp .USub) (rU fun i=>.int (-i)):=unI fun _ _ _ _ _ q=>neg_int q
end
section
variable {X:Cx} {a b c:Expr} {ta tb tc:TE} {pos:Pos}
theorem fin_bl {pins:List (Addr × Obj)} {σ:St} {H:Hp} {s:Shared} {Q:VK} {k k':Bool} (I:Inv X pins σ H s) (q:Q (.bl k) H) (e:k=k'):EP X pins σ Q (.bool k') s:=by
  subst e
  exact ⟨.bl k,H,I,rfl,q⟩
theorem op_lt:OpR X (compareOp .Lt) (rI0 fun i j=>.bl (decide (i < j))):=opB0 fun _ _ _ _ _ _ _ q=>lt_int q
theorem op_le:OpR X (compareOp .LtE) (rI0 fun i j=>.bl (decide (i ≤ j))):=opB0 fun _ _ _ _ _ _ _ q=>le_int q
theorem op_gt:OpR X (compareOp .Gt) (rI0 fun i j=>.bl (decide (j < i))):=opB0 fun _ _ _ _ _ _ _ q=>gt_int q
theorem op_isN:OpR X (compareOp .Is) (fun x y H Q=>y=.non∧Q (.bl (decide (x=.non))) H):=by
  intro pins s σ H x y v u Q I rx ry h
  obtain ⟨rfl,q⟩:=h
  cases ry
  refine is_none_gen (fin_bl I q ?_)
  cases x <;> first
    | (cases rx; rfl)
    | (obtain ⟨t,rfl⟩:=rx; rfl)
theorem OpR.or {f:Value→Value→Sem Value} {r r':R2} (h:OpR X f r) (h':OpR X f r'):OpR X f (fun x y H Q=>r x y H Q∨r' x y H Q):=by
  intro pins s σ H x y v u Q I rx ry q
  rcases q with q | q
  · exact h pins s σ H x y v u Q I rx ry q
  · exact h' pins s σ H x y v u Q I rx ry q
theorem nomark (b:Expr) {op:CmpOp} (h:op ≠ .In:=by decide) (h2:op ≠ .NotIn:=by decide):behindInMarks op b=false:=by
  have e1:(op == CmpOp.In)=false:=by cases op <;> first | rfl | exact absurd rfl h
  have e2:(op == CmpOp.NotIn)=false:=by cases op <;> first | rfl | exact absurd rfl h2
  cases b <;> simp [behindInMarks,e1,e2]
theorem pe_cmpR {op:CmpOp} {r:R2} (ho:OpR X (compareOp op) r) (ha:PE X a ta) (hb:PE X b tb) (hm:behindInMarks op b=false):PE X (.Compare a [op] [b] pos) (tOp r ta tb):=by
  intro pins s σ H Q I h
  exact wpAny_Compare1 (binT ha hb I h fun v u s2 x y H2 I2 rx ry q=>ho pins s2 σ H2 x y v u Q I2 rx ry q) hm
noncomputable def tTest (t:TE):TT:=fun σ H Q=>t σ H fun x H'=>∃ k,x=.bl k∧Q k H'
theorem pt_cmpR {op:CmpOp} {r:R2} (ho:OpR X (compareOp op) r) (ha:PE X a ta) (hb:PE X b tb) (hm:behindInMarks op b=false):PT X (.Compare a [op] [b] pos) (tTest (tOp r ta tb)):=by
  intro pins s σ H Q I h
  refine wpAny_isTrue_Compare1 (thn (ha pins s σ H _ I h) fun v s1 ⟨x,H1,I1,r1,q1⟩=>thn (hb pins s1 σ H1 _ I1 q1) fun u s2 ⟨y,H2,I2,r2,q2⟩=>
    thn (ho pins s2 σ H2 x y v u _ I2 r1 r2 q2) fun c s3 ⟨z,H3,I3,r3,k,e,q3⟩=>?_) hm
  subst e
  cases r3
  exact wpAny_truthy_bool ⟨H3,I3,q3⟩
noncomputable def tChain (r r':R2) (ta tb tc:TE):TE:=fun σ H Q=>ta σ H fun x H1=>tb σ H1 fun y H2=>r x y H2 fun z H3=>∃ k,z=.bl k∧
  (if k=true then tc σ H3 fun w' H4=>r' y w' H4 Q else Q (.bl false) H3)
theorem pe_chain {op op':CmpOp} {r r':R2} (ho:OpR X (compareOp op) r) (ho':OpR X (compareOp op') r') (ha:PE X a ta) (hb:PE X b tb) (hc:PE X c tc)
    (hm:lastMarks [op,op'] [b,c]=false:=by with_unfolding_all rfl):PE X (.Compare a [op,op'] [b,c] pos) (tChain r r' ta tb tc):=by
  intro pins s σ H Q I h
  refine Compare_chain (thn (ha pins s σ H _ I h) fun v s1 ⟨x,H1,I1,r1,q1⟩=>chain_link (thn (hb pins s1 σ H1 _ I1 q1) fun u s2 ⟨y,H2,I2,r2,q2⟩=>
    thn (ho pins s2 σ H2 x y v u _ I2 r1 r2 q2) fun d s3 ⟨z,H3,I3,r3,k,e,q3⟩=>?_)) hm
  subst e
  cases r3
  refine wpAny_truthy_bool ?_
  cases k with
  | false=>exact ite_ff ⟨.bl false,H3,I3,rfl,q3⟩
  | true=>exact ite_tt (chain_last (thn (hc pins s3 σ H3 _ I3 q3) fun w' s4 ⟨z',H4,I4,r4,q4⟩=>ho' pins s4 σ H4 y z' u w' Q I4 r2 r4 q4))
theorem line63:(sizeLine:Nat) < 2 ^ 63:=by rw [sizeLine_eq]; decide
theorem op_add_str:OpR X (binaryOp .Add) (fun x y H Q=>∃ i j,x=.str i∧y=.str j∧i.length + j.length ≤ sizeLine∧Q (.str (i ++ j)) H):=by
  intro pins s σ H x y v u Q I rx ry h
  obtain ⟨i,j,rfl,rfl,hz,q⟩:=h
  obtain ⟨t,rfl⟩:=rx
  obtain ⟨t',rfl⟩:=ry
  exact add_str (fun t' tk=>⟨.str (i ++ j),H,I.tok _,⟨_,rfl⟩,q⟩) hz
theorem vals1 {x:V} {us:List Value} (r:Vals [x] us):∃ u,us=[u]∧RelV x u:=by
  cases r with
  | cons r1 r2=>cases r2; exact ⟨_,rfl,r1⟩
theorem vals2 {x y:V} {us:List Value} (r:Vals [x,y] us):∃ u w',us=[u,w']∧RelV x u∧RelV y w':=by
  cases r with
  | cons r1 r2=>
    cases r2 with
    | cons r3 r4=>cases r4; exact ⟨_,_,rfl,r1,r3⟩
theorem call_int1:CallR X (.type "int") (fun xs H Q=>(∃ i,xs=[.int i]∧Q (.int i) H)∨∃ k,xs=[.bl k]∧Q (.int (if k then 1 else 0)) H):=by
  intro pins s σ H xs us Q I r h
  rcases h with ⟨i,rfl,q⟩ | ⟨k,rfl,q⟩
  · obtain ⟨u,rfl,t,rfl⟩:=vals1 r
    exact call_int_int ⟨.int i,H,I,⟨_,rfl⟩,q⟩
  · obtain ⟨u,rfl,r1⟩:=vals1 r
    cases r1
    exact call_int_bool ⟨.int (if k then 1 else 0),H,I.tok _,⟨_,rfl⟩,q⟩
theorem call_str_int:CallR X (.type "str") (fun xs H Q=>∃ i,xs=[.int i]∧i.natAbs.log2 < 1920∧Q (.str (toString i)) H):=by
  intro pins s σ H xs us Q I r h
  obtain ⟨i,rfl,hz,q⟩:=h
  obtain ⟨u,rfl,t,rfl⟩:=vals1 r
  exact PySem.P.str_of_int hz ⟨.str _,H,I.tok _,⟨_,rfl⟩,q⟩
end
end L2
namespace L2
open PySem PySem.Spec PyProof.Rows
structure ObjM (h:Heap) (x dx C:Addr) (mA:Str→Option Value):Prop where
  obj:h.get? x=some (PySem.W.instObj C dx)
  ns:h.Ns1 dx mA
  ne:dx ≠ x
theorem lookIn_ns {h:Heap} {dx:Addr} {mA:Str→Option Value} (n:h.Ns1 dx mA):∃ od,h.get? dx=some od∧∀ name,PySem.W.lookIn name od=some (mA name):=by
  obtain ⟨o,es,ep,ho,hd,hk,_,hm⟩:=n
  refine ⟨o,ho,fun name=>?_⟩
  have e:=hm name
  unfold nsFind findBy at e
  rw [← Array.find?_toList] at e
  unfold PySem.W.lookIn
  rw [hd]
  dsimp only
  split
  · rename_i y q
    rw [q] at e
    exact congrArg some e
  · rename_i q
    rw [q] at e
    have a:es.toList.any (·.refKey)=false:=by
      rw [List.any_eq_false]
      intro y hy
      obtain ⟨z,t,hkey⟩:=hk y (Array.mem_toList_iff.mp hy)
      simp [DictEntry.refKey,hkey]
    have a':¬ es.toList.any (·.refKey)=true:=by rw [a]; exact Bool.false_ne_true
    rw [if_neg a']
    exact congrArg some e
theorem ObjM.look {h:Heap} {x dx C:Addr} {mA:Str→Option Value} (I:ObjM h x dx C mA):∃ od,PySem.W.InstAt h x (PySem.W.instObj C dx) C (some od)∧∀ name,PySem.W.lookIn name od=some (mA name):=
  let ⟨od,ho,hl⟩:=lookIn_ns I.ns
  ⟨od,⟨I.obj,rfl,rfl,ho⟩,hl⟩
section
variable {prog:Program} {w:World} {A:Around} {E:Value→Shared→Prop} {s:Shared} {K:PySem.W.Frag} {x dx C f:Addr} {mA:Str→Option Value} {name:Str} {v:Value}
end
theorem RelO.some_of {v:V} {o:Option Value} (r:RelO (some v) o):∃ u,o=some u∧RelV v u:=by
  cases o with
  | none=>exact (show False from r).elim
  | some u=>exact ⟨u,rfl,r⟩
section
variable {P:Program} {w:World} {H H':Hp} {h h':Heap} {a C dx:Addr} {fs fs':List (Str × V)}
theorem ins_get (hok:HOk P w H h) (e:H a=some (.ins C dx fs)):∃ mA,ObjM h a dx C mA∧(∀ f,RelO (fs.lookup f) (mA f))∧PySem.Within mA (fs.map (·.1))∧fs.length ≤ 1000∧H dx=some (.own a):=by
  obtain ⟨d,z,ne,ob,mA,n,r,q⟩:=(show ObjOk P w H h a (.ins C dx fs) from hok a _ e)
  exact ⟨mA,⟨ob,n,ne⟩,r,q,z,d⟩
end
structure Cls (K:PySem.W.Frag) (C:Addr):Prop where
  pg:PySem.W.plainGet K C Str.empty=true
  hd:PySem.W.hasDictIn K C=true
  po:PySem.W.plainOver K C=true
  sa:PySem.W.findIn K (.ref C) "__setattr__" = some (some (.builtin "object.__setattr__"))
theorem Cls.get {K:PySem.W.Frag} {C:Addr} (c:Cls K C) (f:Str):PySem.W.plainGet K C f=true:=c.pg
section
variable {X:Cx} {pins:List (Addr × Obj)} {σ:St} {H:Hp} {s:Shared} {a C dx:Addr} {fs:List (Str × V)} {f:Str} {v:V} {A:Around} {E:Value→Shared→Prop}
end
section
variable {X:Cx} {o e value:Expr} {f:Str} {pos pos' tpos:Pos} {ta tv:TE}
end
section
variable {X:Cx} {pins:List (Addr × Obj)} {σ:St} {H:Hp} {s:Shared} {A:Around} {E:Value→Shared→Prop} {Q:Value→Shared→Prop} {c:Value} {b:Bool}
inductive TyOf (K:PySem.W.Frag) (H:Hp):V→Value→Prop where
  | non:TyOf K H .non (.type "NoneType")
  | bl (x:Bool):TyOf K H (.bl x) (.type "bool")
  | int (i:Int):TyOf K H (.int i) (.type "int")
  | str (x:Str):TyOf K H (.str x) (.type "str")
  | flt (x:UInt64):TyOf K H (.flt x) (.type "float")
  | lst {a:Addr} {xs:List V} (e:H a=some (.lst xs)):TyOf K H (.ref a) (.type "list")
  | frz {a:Addr} {o:Obj} {xs:List V} (e:H a=some (.frz o (.lst xs))):TyOf K H (.ref a) (.type "list")
  | tup {a:Addr} {xs:List V} (e:H a=some (.tup xs)):TyOf K H (.ref a) (.type "tuple")
  | dK {a:Addr} {kvs:List (Key × V)} (e:H a=some (.dK kvs)):TyOf K H (.ref a) (.type "dict")
  | dT {a:Addr} {kvs:List (List Key × V)} (e:H a=some (.dT kvs)):TyOf K H (.ref a) (.type "dict")
  | ins {a C dx:Addr} {fs:List (Str × V)} (e:H a=some (.ins C dx fs)) (cl:Cls K C) (ha:PySem.W.findIn K (.ref C) "__class__" = some (some (.builtin "object.__class__")))
      (hn:PySem.W.specialIn K (.builtin "object.__class__") "__get__" = some (some (.builtin "getset_descriptor.__get__"))) (htk:PySem.W.takesIn K (.builtin "object.__class__")=some true)
      (hm:PySem.W.mroIn K C (.type "object")=some true):TyOf K H (.ref a) (.ref C)
theorem isinst_ok {x:V} {u t:Value} (I:Inv X pins σ H s) (rx:RelV x u) (ty:TyOf X.K H x t) (e:PySem.W.kitOne X.K t c=some b) (h:∀ tk,Q (.bool b) { s with toks:=tk }) :
    wpAny (model X.prog X.w) A (call (.builtin "isinstance") [u,c]) Q E s:=by
  cases ty with
  | non=>cases (show u=Value.none from rx); exact PySem.W.kia_one PySem.W.kitx_none I.kIn True.intro e (fun z=>nomatch z) h
  | bl y=>cases (show u=Value.bool y from rx); exact PySem.W.kia_one PySem.W.kitx_bool I.kIn True.intro e (fun z=>nomatch z) h
  | int i=>obtain ⟨t,q⟩:=(show ∃ t,u=Value.int i t from rx); cases q; exact PySem.W.kia_one PySem.W.kitx_int I.kIn True.intro e (fun z=>nomatch z) h
  | str y=>obtain ⟨t,q⟩:=(show ∃ t,u=Value.str y t from rx); cases q; exact PySem.W.kia_one PySem.W.kitx_str I.kIn True.intro e (fun z=>nomatch z) h
  | flt y=>obtain ⟨t,q⟩:=(show ∃ t,u=Value.float y t from rx); cases q; exact PySem.W.kia_one PySem.W.kitx_float I.kIn True.intro e (fun z=>nomatch z) h
  | @lst a xs ea=>
    cases (show u=Value.ref a from rx)
    obtain ⟨_,_,n,_,h1⟩:=(show ObjOk X.prog X.w H s.heap a (.lst xs) from I.hok a _ ea)
    exact PySem.W.kia_one PySem.W.kitx_list I.kIn ⟨_,h1,rfl⟩ e (fun z=>nomatch z) h
  | @frz a ob xs ea=>
    cases (show u=Value.ref a from rx)
    obtain ⟨_,_,_,n,_,h1⟩:=(show ObjOk X.prog X.w H s.heap a (.frz ob (.lst xs)) from I.hok a _ ea)
    exact PySem.W.kia_one PySem.W.kitx_list I.kIn ⟨_,h1,rfl⟩ e (fun z=>nomatch z) h
  | @tup a xs ea=>
    cases (show u=Value.ref a from rx)
    obtain ⟨_,_,_,p⟩:=(show ObjOk X.prog X.w H s.heap a (.tup xs) from I.hok a _ ea)
    obtain ⟨o,h1,h2,_⟩:=p
    exact PySem.W.kia_one PySem.W.kitx_tuple I.kIn ⟨o,h1,h2⟩ e (fun z=>nomatch z) h
  | @dK a kvs ea=>
    cases (show u=Value.ref a from rx)
    obtain ⟨_,_,vs,_,p⟩:=(show ObjOk X.prog X.w H s.heap a (.dK kvs) from I.hok a _ ea)
    obtain ⟨o,es,ep,h1,h2,_⟩:=p
    exact PySem.W.kia_one PySem.W.kitx_dict I.kIn ⟨o,h1,h2.1⟩ e (fun z=>nomatch z) h
  | @dT a kvs ea=>
    cases (show u=Value.ref a from rx)
    obtain ⟨_,_,xs,_,o,es,ep,h1,h2,_⟩:=(show ObjOk X.prog X.w H s.heap a (.dT kvs) from I.hok a _ ea)
    exact PySem.W.kia_one PySem.W.kitx_dict I.kIn ⟨o,h1,h2.1⟩ e (fun z=>nomatch z) h
  | @ins a C dx fs ea cl ha hn htk hm=>
    cases (show u=Value.ref a from rx)
    obtain ⟨mA,O,_⟩:=ins_get I.hok ea
    obtain ⟨od,J,_⟩:=O.look
    exact PySem.W.kia_one (PySem.W.kitx_own (cl.get _) cl.hd ha hn htk hm) I.kIn J e (fun z=>nomatch z) h
end
end L2
namespace L2
open PySem PySem.Spec PyProof.Rows
structure Room (k:Nat) (A:Around):Prop where
  hd:A.handled=none
  dp:A.depth + 3 * k + 5 < recursionLimit
  un:A.units + 16 * k + 200 < cLine
theorem Room.mono {j k:Nat} {A:Around} (r:Room k A) (h:j ≤ k):Room j A:=⟨r.hd,by have:=r.dp; omega,by have:=r.un; omega⟩
theorem Room.deeper {k:Nat} {A:Around} (r:Room (k + 1) A) (env:Env):Room k (A.deeper env):=
  ⟨r.hd,by have:=r.dp; show A.depth + 1 + 3 * k + 5 < _; omega,by have:=r.un; show A.units + 3 + 16 * k + 200 < _; omega⟩
theorem Room.depth {k:Nat} {A:Around} (r:Room k A):A.depth < recursionLimit:=by have:=r.dp; omega
theorem Room.units {k:Nat} {A:Around} (r:Room k A):A.units + 64 < cLine:=by have:=r.un; omega
noncomputable def tNil:TA:=fun _ H Q=>Q [] H
noncomputable def tCons (ta:TE) (tr:TA):TA:=fun σ H Q=>ta σ H fun x H1=>tr σ H1 fun xs H2=>Q (x :: xs) H2
section
variable {X:Cx} {e:Expr} {es:List Expr} {te:TE} {t:TA} {pos:Pos}
theorem pa_nil:PA X [] tNil:=fun _ _ _ _ H Q I h=>Calls.spliced_nil ⟨[],H,I,.nil,h⟩
theorem pa_cons (ha:PE X e te) (hr:PA X es t) (hs:starEach (e :: es) X.env=(false,eval e X.env) :: starEach es X.env:=by rfl):PA X (e :: es) (tCons te t):=by
  intro pos pins s σ H Q I h
  rw [hs]
  show wpAny _ _ (spliced ((false,eval e X.env) :: backTo pos (starEach es X.env))) _ _ s
  refine Calls.spliced_cons (thn (ha pins s σ H _ I h) fun u s1 ⟨x,H1,I1,r1,q1⟩=>?_)
  exact thn (hr pos pins s1 σ H1 _ I1 q1) fun us s2 ⟨xs,H2,I2,r2,q2⟩=>⟨x :: xs,H2,I2,.cons r1 r2,q2⟩
noncomputable def tTup (t:TA):TE:=fun σ H Q=>t σ H fun xs H1=>xs.length ≤ sizeLine∧∀ p,H1 p=none→Q (.ref p) (upd H1 p (.tup xs))
noncomputable def tLst (t:TA):TE:=fun σ H Q=>t σ H fun xs H1=>xs.length ≤ sizeLine∧∀ p,H1 p=none→Q (.ref p) (upd H1 p (.lst xs))
theorem pe_tup {x1} (h:PA X es t):PE X (.Tuple es x1 pos) (tTup t):=by
  intro pins s σ H Q I hq
  refine wpAny_Tuple_spliced (thn (h pos pins s σ H _ I hq) fun us s1 ⟨xs,H1,I1,r,z,q⟩=>⟨by rw [← r.length]; exact z,?_⟩)
  have hf:H1 s1.heap.objs.size=none:=I1.hok.fresh (Nat.le_refl _)
  refine ⟨.ref s1.heap.objs.size,upd H1 s1.heap.objs.size (.tup xs),I1.laid (t':=s1.toks) (fun b u e=>Heap.get?_push_of_some _ e) (Nat.le_refl _) ?_,rfl,q _ hf⟩
  exact ⟨z,us,r,⟨_,Heap.get?_push_size _ rfl,rfl,_,rfl⟩⟩
theorem pe_lst (h:PA X es t):PE X (.List es pos) (tLst t):=by
  intro pins s σ H Q I hq
  refine wpAny_List_spliced (thn (h pos pins s σ H _ I hq) fun us s1 ⟨xs,H1,I1,r,z,q⟩=>⟨by rw [← r.length]; exact z,?_⟩)
  have hf:H1 s1.heap.objs.size=none:=I1.hok.fresh (Nat.le_refl _)
  refine ⟨.ref s1.heap.objs.size,upd H1 s1.heap.objs.size (.lst xs),I1.laid (t':=s1.toks) (fun b u e=>Heap.get?_push_of_some _ e) (Nat.le_refl _) ?_,rfl,q _ hf⟩
  exact ⟨z,us,0,r,Heap.get?_push_size _ rfl⟩
end
noncomputable abbrev Sp:=List V→Hp→VK→XK→Prop
noncomputable abbrev CXT:=List Env→Hp→Shared→XK→Value→Shared→Prop
structure Env0 (P:Program) (w:World) (K:PySem.W.Frag) (mg:Str→Option Value) (base:Heap) (A:Around) (outer:List Env) (s:Shared) (H:Hp):Prop where
  frames:A.frames=some outer
  mod:Mod K mg base
  bs:∀ b o,base.get? b=some o→s.heap.get? b=some o∧H b=none
  bsz:base.objs.size ≤ s.heap.objs.size
  funs:s.heap.FunFrames base outer
  frf:∀ b ∈ frs outer,H b=none
  hok:HOk P w H s.heap
  bare:AllBare s.gens
noncomputable def CE (outer:List Env) (P:Program) (w:World) (H:Hp) (s:Shared) (Q:VK) (u:Value) (s':Shared):Prop:=
  ∃ v H',s'.os=s.os∧AllBare s'.gens∧Un (frs outer) [] H H' s.heap s'.heap∧HOk P w H' s'.heap∧RelV v u∧Q v H'
noncomputable def CR (CX:CXT) (outer:List Env) (P:Program) (w:World) (H:Hp) (s:Shared) (Q:VK) (E:XK) (r:Result) (s':Shared):Prop:=
  match r with
  | .ok (.ret u)=>CE outer P w H s Q u s'
  | .ok _=>False
  | .error e=>CX outer H s E e s'
structure FnOk (P:Program) (w:World) (K:PySem.W.Frag) (mg:Str→Option Value) (base:Heap) (CX:CXT) (k:Nat) (f:Addr) (fd:FuncData) (ps:List Str) (sp:Sp):Prop where
  len:∀ vs H Q E,sp vs H Q E→vs.length=ps.length
  run:∀ (A:Around) (outer:List Env) (s:Shared) (H:Hp) (args:Args) (us:List Value) (vs:List V) (Q:VK) (E:XK),Room k A→Env0 P w K mg base A outer s H→BindsTo s fd args (ps.zip us)→Vals vs us→sp vs H Q E→
    codeAny (model P w) A (.call (.ref f) args) (CR CX outer P w H s Q E) s
theorem FnOk.mono {P:Program} {w:World} {K:PySem.W.Frag} {mg:Str→Option Value} {base:Heap} {CX:CXT} {j k:Nat} {f:Addr} {fd:FuncData} {ps:List Str} {sp:Sp} (F:FnOk P w K mg base CX j f fd ps sp) (h:j ≤ k) :
    FnOk P w K mg base CX k f fd ps sp:=⟨F.len,fun A outer s H args us vs Q E hr=>F.run A outer s H args us vs Q E (hr.mono h)⟩
section
variable {X:Cx} {pins:List (Addr × Obj)} {σ:St} {H:Hp} {s s':Shared}
theorem Inv.env0 (I:Inv X pins σ H s):Env0 X.prog X.w X.K X.mg X.base X.A X.stack s H:=
  ⟨I.ok.frames,I.ok.mod,I.bs,Nat.le_trans I.ok.bsz I.sz,I.stack,I.stkFree,I.hok,I.bare⟩
theorem Inv.after {Q:VK} {u:Value} (I:Inv X pins σ H s) (h:CE X.stack X.prog X.w H s Q u s'):EP X pins σ Q u s':=by
  obtain ⟨v,H',os,bare,un,hok,r,q⟩:=h
  obtain ⟨hh,g,d,t,os'⟩:=s'
  obtain rfl:os'=s.os:=os
  exact ⟨v,H',I.call (h':=hh) (g':=g) (d':=d) (t':=t) (ch:=[]) un hok bare (fun b z=>absurd z (by simp)),r,q⟩
end
noncomputable def tCall (sp:Sp) (dvs:List V) (E:XK) (t:TA):TE:=fun σ H Q=>t σ H fun vs H1=>sp (vs ++ dvs) H1 Q E
noncomputable def Binds (K:PySem.W.Frag) (fd:FuncData) (ps:List Str) (ds:List Value):Prop:=
  ∀ (s:Shared) (us:List Value),K.In s.heap→(us ++ ds).length=ps.length→BindsTo s fd ⟨us,[]⟩ (ps.zip (us ++ ds))
theorem Binds.all {K:PySem.W.Frag} {fd:FuncData} {ps:List Str} (h:∀ us:List Value,us.length=ps.length→bindArgs fd ⟨us,[]⟩=pure (ps.zip us)):Binds K fd ps []:=fun s us _ hl=>by
  rw [List.append_nil] at hl ⊢
  exact .of_eq (h us hl)
noncomputable def Passes (CX:CXT) (X:Cx) (E:XK):Prop:=∀ (pins:List (Addr × Obj)) (σ:St) (H:Hp) (s:Shared) (e:Value) (s':Shared),Inv X pins σ H s→CX X.stack H s E e s'→X.xe e s'
section
variable {X:Cx} {CX:CXT} {k:Nat} {f C:Addr} {fd:FuncData} {ps:List Str} {sp:Sp} {dvs:List V} {ds:List Value} {E:XK} {x m:Str} {p pos apos:Pos} {e o:Expr} {es:List Expr} {ta:TE} {t:TA}
theorem run_fn {pins:List (Addr × Obj)} {σ:St} {H:Hp} {s:Shared} {Q:VK} {us:List Value} {vs:List V} (F:FnOk X.prog X.w X.K X.mg X.base CX k f fd ps sp) (hr:Room k X.A) (hb:Binds X.K fd ps ds) (hd:Vals dvs ds) (hx:Passes CX X E)
    (I:Inv X pins σ H s) (r:Vals vs us) (h:sp (vs ++ dvs) H Q E):wpAny (model X.prog X.w) X.A (call (.ref f) us) (EP X pins σ Q) X.xe s:=by
  have r2:Vals (vs ++ dvs) (us ++ ds):=r.append hd
  have hl:(us ++ ds).length=ps.length:=by rw [← r2.length]; exact F.len _ _ _ _ h
  refine wpAny_call (codeAny_mono (F.run X.A X.stack s H ⟨us,[]⟩ (us ++ ds) (vs ++ dvs) Q E hr I.env0 (hb s us I.kIn hl) r2 h) fun r s' hq=>?_)
  cases r with
  | error e=>exact hx pins σ H s e s' I hq
  | ok fl=>
    cases fl with
    | ret u=>exact I.after hq
    | next=>exact False.elim hq
    | brk=>exact False.elim hq
    | cont=>exact False.elim hq
theorem pe_call (F:FnOk X.prog X.w X.K X.mg X.base CX k f fd ps sp) (hr:Room k X.A) (hg:Gl X x) (hm:X.mg x=some (.ref f)) (hk:PySem.W.keepIn X.K (.ref f)=true) (hb:Binds X.K fd ps ds) (hd:Vals dvs ds) (hx:Passes CX X E)
    (ha:PA X (e :: es) t) (hdb:(x == ("__debug__" : Str))=false:=by decide) (he:starEach (e :: es) X.env=(false,eval e X.env) :: starEach es X.env:=by rfl) (hpl:(backTo pos (starEach es X.env)).any (·.1)=false:=by rfl) :
    PE X (.Call (.Name x p) (e :: es) [] pos) (tCall sp dvs E t):=by
  intro pins s σ H Q I h
  refine wpAny_Call_Name_kw (ld_glob I hg hm ?_ hdb)
  refine PySem.W.callWith_K (h₀:=X.base) I.ok.mod.kin hk (thn (ha pos pins s σ H _ I h) fun us s1 ⟨vs,H1,I1,r,q⟩=>⟨I1.kIn,?_⟩) he hpl
  exact run_fn F hr hb hd hx I1 r q
end
section
variable {X:Cx} {CX:CXT} {k:Nat} {f C:Addr} {fd:FuncData} {ps ks:List Str} {sp:Sp} {E:XK} {x m:Str} {p pos apos kpos:Pos} {e o:Expr} {es:List Expr} {kws:List Keyword} {te ta:TE} {t tk:TA} {nm:Option Str}
variable {g:List Value→List Value→List Value} {gV:List V→List V→List V}
end
structure FnScope (N P:List Str) (sc:Scope):Prop where
  kind:sc.kind=.function
  co:sc.isCoroutine=false
  gen:sc.isGenerator=false
  nd:N.Nodup
  pre:N.take P.length=P
  par:∀ x ∈ P,sc.names.lookup x=some .local∨sc.names.lookup x=some .cell
  nofree:∀ y ∈ sc.names,y.2 ≠ .free
theorem bindL_out {kindOf:Str→Option NameKind} {x:Str}:∀ {binds:List (Str × Value)} {m:Str→Option Value},(∀ v,(x,v) ∉ binds)→bindL kindOf binds m x=m x
  | [],_,_=>rfl
  | (n,v) :: r,m,h=>by
    unfold bindL
    rw [bindL_out fun w hw=>h w (List.mem_cons_of_mem _ hw)]
    split
    · have:x ≠ n:=by rintro rfl; exact h v List.mem_cons_self
      simp [this]
    · rfl
theorem bindC_out {kindOf:Str→Option NameKind} {x:Str}:∀ {binds:List (Str × Value)} {m:Str→Option Value},(∀ v,(x,v) ∉ binds)→bindC kindOf binds m x=m x
  | [],_,_=>rfl
  | (n,v) :: r,m,h=>by
    unfold bindC
    rw [bindC_out fun w hw=>h w (List.mem_cons_of_mem _ hw)]
    split
    · rfl
    · have:x ≠ n:=by rintro rfl; exact h v List.mem_cons_self
      simp [this]
theorem bindL_get {kindOf:Str→Option NameKind} {x:Str} {v:Value}:∀ {P:List Str} {vs:List Value} {i:Nat} {m:Str→Option Value},P.Nodup→P[i]?=some x→vs[i]?=some v→kindOf x=some .local→
    bindL kindOf (P.zip vs) m x=some v
  | [],_,_,_,_,h,_,_=>by simp at h
  | _ :: _,[],_,_,_,_,h,_=>by simp at h
  | p :: P,w :: vs,0,m,nd,h1,h2,hk=>by
    simp at h1 h2; subst h1; subst h2
    show bindL kindOf ((p,w) :: P.zip vs) m p=_
    unfold bindL
    rw [bindL_out fun v hv=>(List.nodup_cons.mp nd).1 (List.of_mem_zip hv).1,if_pos hk]
    simp
  | p :: P,w :: vs,i + 1,m,nd,h1,h2,hk=>by
    show bindL kindOf ((p,w) :: P.zip vs) m x=_
    unfold bindL
    exact bindL_get (i:=i) (List.nodup_cons.mp nd).2 (by simpa using h1) (by simpa using h2) hk
theorem bindC_get {kindOf:Str→Option NameKind} {x:Str} {v:Value}:∀ {P:List Str} {vs:List Value} {i:Nat} {m:Str→Option Value},P.Nodup→P[i]?=some x→vs[i]?=some v→kindOf x ≠ some .local→
    bindC kindOf (P.zip vs) m x=some v
  | [],_,_,_,_,h,_,_=>by simp at h
  | _ :: _,[],_,_,_,_,h,_=>by simp at h
  | p :: P,w :: vs,0,m,nd,h1,h2,hk=>by
    simp at h1 h2; subst h1; subst h2
    show bindC kindOf ((p,w) :: P.zip vs) m p=_
    unfold bindC
    rw [bindC_out fun v hv=>(List.nodup_cons.mp nd).1 (List.of_mem_zip hv).1,if_neg hk]
    simp
  | p :: P,w :: vs,i + 1,m,nd,h1,h2,hk=>by
    show bindC kindOf ((p,w) :: P.zip vs) m x=_
    unfold bindC
    exact bindC_get (i:=i) (List.nodup_cons.mp nd).2 (by simpa using h1) (by simpa using h2) hk
noncomputable def start (N:List Str) (vs:List V):St:=vs.map some ++ List.replicate (N.length - vs.length) none
noncomputable def cxOf (CX:CXT) (P:Program) (w:World) (K:PySem.W.Frag) (mg:Str→Option Value) (base:Heap) (N:List Str) (qual:Str) (scope:Scope) (f:Addr) (cd:Value) (A:Around) (outer:List Env) (s:Shared) (H:Hp) (E:XK):Cx where
  prog:=P
  w:=w
  K:=K
  mg:=mg
  base:=base
  A:=A.deeper (envOfC qual scope s.heap.objs.size f cd)
  N:=N
  s₀:=s
  H₀:=H
  env:=envOfC qual scope s.heap.objs.size f cd
  outer:=outer
  stack:=envOfC qual scope s.heap.objs.size f cd :: outer
  ex:=[]
  calm:=true
  fn:=fun _=>true
  pn:=[]
  xe:=fun e s'=>wpAny (model P w) (A.deeper (envOfC qual scope s.heap.objs.size f cd)) (leaving (envOfC qual scope s.heap.objs.size f cd) e) (fun _ s''=>CX outer H s E e s'') (fun e' s''=>CX outer H s E e' s'') s'
theorem cell_has {sc:Scope} {n:Nat} {x:Str} (h:sc.names.lookup x=some .cell):∃ c,(cellsFrom n sc.names []).lookup x=some c:=by
  have q:=PySem.W.cellsFrom_some sc.names n [] (.inl h)
  exact Option.isSome_iff_exists.mp q
theorem inv_start {CX:CXT} {P:Program} {w:World} {K:PySem.W.Frag} {mg:Str→Option Value} {base:Heap} {N ps:List Str} {qual:Str} {scope:Scope} {f:Addr} {cd:Value} {A:Around} {outer:List Env} {s s1:Shared} {H:Hp} {E:XK} {us:List Value} {vs:List V}
    (S:FnScope N ps scope) (hd:A.handled=none) (e0:Env0 P w K mg base A outer s H) (hl:vs.length=ps.length) (r:Vals vs us)
    (x:InCallC s s.heap.objs.size (bindL (envOfC qual scope s.heap.objs.size f cd).kindOf (ps.zip us) fun _=>none) (cellsFrom (s.heap.objs.size + 1) scope.names []) (bindC (envOfC qual scope s.heap.objs.size f cd).kindOf (ps.zip us) fun _=>none) s1) :
    Inv (cxOf CX P w K mg base N qual scope f cd A outer s H E) [] (start N vs) H s1:=by
  have hpl:ps.length ≤ N.length:=by have:=congrArg List.length S.pre; rw [List.length_take] at this; omega
  obtain ⟨h1,tk,rfl,hk⟩:=x.done
  have noA:∀ b:Addr,b ∉ (cxOf CX P w K mg base N qual scope f cd A outer s H E).ex:=fun b z=>absurd (show b ∈ ([]:List Addr) from z) (by simp)
  refine ⟨⟨e0.mod,S.kind,rfl,rfl,Nat.le_refl _,fun y z c h1 h2=>?_,fun y hy=>?_,fun y c _ h=>?_,fun _=>hd,Around.frames_deeper e0.frames,.inr ⟨rfl,rfl⟩,fun b z=>absurd z (noA b),e0.bs,e0.bsz,fun b _ _=>noA b,fun b z=>absurd z (noA b),e0.funs,e0.frf⟩,
    rfl,e0.bare,Un.kept hk,⟨_,x.toInCall.ns,fun i y v h1 h2 h3=>?_⟩,fun y c h=>⟨_,x.cell y c h⟩,e0.hok.fresh (Nat.le_refl _),fun y c h=>?_,fun p hp=>absurd (show p ∈ ([]:List (Addr × Obj)) from hp) (by simp),e0.hok.kept hk,?_⟩
  · exact name_of_addr x.apart (PySem.mem_of_lookup h1) (PySem.mem_of_lookup h2)
  · have hy:scope.names.lookup y=some .cell∨scope.names.lookup y=some .free:=hy
    rcases hy with hy | hy
    · exact cell_has hy
    · exact absurd rfl (S.nofree _ (PySem.mem_of_lookup hy))
  · exact Nat.le_of_lt (x.above y c (PySem.mem_of_lookup h))
  · have hi:i < vs.length:=by
      unfold start at h2
      by_cases hi:i < vs.length
      · exact hi
      · rw [List.getElem?_append_right (by simpa using hi)] at h2
        rw [List.getElem?_replicate] at h2
        split at h2 <;> cases h2
    have ha:vs[i]?=some v:=by
      unfold start at h2
      rw [List.getElem?_append_left (by simpa using hi),List.getElem?_map] at h2
      cases e:vs[i]? with
      | none=>rw [e] at h2; cases h2
      | some a=>rw [e] at h2; cases h2; rfl
    obtain ⟨u,hu,rv⟩:=r.get ha
    have hp:ps[i]?=some y:=by
      rw [← S.pre,List.getElem?_take_of_lt (by omega)]; exact h1
    have ndP:ps.Nodup:=by rw [← S.pre]; exact S.nd.sublist (List.take_sublist _ _)
    refine ⟨u,rv,?_⟩
    rcases S.par y (List.mem_of_getElem? hp) with k | k
    · exact .inl ⟨k,bindL_get ndP hp hu k⟩
    · obtain ⟨c,e⟩:=cell_has (n:=s.heap.objs.size + 1) k
      refine .inr ⟨.inl k,c,e,?_⟩
      have q:=x.cell y c e
      rw [bindC_get ndP hp hu (by show scope.names.lookup y ≠ _; rw [k]; decide)] at q
      exact q
  · exact e0.hok.fresh (Nat.le_of_lt (x.above y c (PySem.mem_of_lookup h)))
  · unfold start
    show _=N.length
    rw [List.length_append,List.length_map,List.length_replicate]
    omega
theorem fn_of {CX:CXT} {P:Program} {w:World} {K:PySem.W.Frag} {mg:Str→Option Value} {base:Heap} {k:Nat} {f:Addr} {name qual:Str} {params:Arguments} {body:List Stmt} {scope:Scope} {dV kV doc pm cdv ct oc:Value} {an od:Option Addr}
    {osl:Array (Option Value)} {N ps:List Str} {sp:Sp} (lk:K.lookup f=some ⟨oc,od,.func (PySem.W.fnOf name qual params body scope dV kV doc pm an cdv ct),osl⟩) (hcd:PySem.W.codeIn K cdv qual=true) (S:FnScope N ps scope)
    (len:∀ vs H Q E,sp vs H Q E→vs.length=ps.length)
    (hbody:∀ (A:Around) (outer:List Env) (s:Shared) (H:Hp) (vs:List V) (Q:VK) (E:XK),Room k (A.deeper (envOfC qual scope s.heap.objs.size f cdv))→sp vs H Q E→
      ∃ t,PSs (cxOf CX P w K mg base N qual scope f cdv A outer s H E) body t∧t { nx:=fun _ H'=>Q .non H',rt:=Q } (start N vs) H) :
    FnOk P w K mg base CX (k + 1) f (PySem.W.fnOf name qual params body scope dV kV doc pm an cdv ct) ps sp:=by
  refine ⟨len,fun A outer s H args us vs Q E hr e0 hb r hsp=>?_⟩
  have hl:=len _ _ _ _ hsp
  have KX:K.In s.heap:=e0.mod.kin.keeps fun b o e=>(e0.bs b o e).1
  have lim:s.heap.NoLimit:=e0.mod.nolimit.keeps fun b o e=>(e0.bs b o e).1
  have hkind:∀ y ∈ ps.zip us,scope.names.lookup y.1=some .local∨(scope.names.lookup y.1=some .cell∧((cellsFrom (s.heap.objs.size + 1) scope.names []).lookup y.1).isSome=true):=fun ⟨n,v⟩ hy=>by
    rcases S.par n (List.of_mem_zip hy).1 with q | q
    · exact .inl q
    · exact .inr ⟨q,PySem.W.cellsFrom_some _ _ _ (.inl q)⟩
  refine codeAny_call_function hr.depth (KX _ _ lk) rfl S.co S.gen rfl (PySem.W.codeRec_of KX hcd) (hb _ _ _ _ ?_)
  refine wpAny_newFunctionEnv_cells S.kind hkind fun env he s1 x=>?_
  subst he
  refine ⟨lim.keeps x.toInCall.keep,codeAny_func ?_⟩
  obtain ⟨t,ht,hq⟩:=hbody A outer s H vs Q E (hr.deeper _) hsp
  have I:Inv (cxOf CX P w K mg base N qual scope f cdv A outer s H E) [] (start N vs) H s1:=inv_start S hr.hd e0 hl r x
  refine wpAny_mono (ht [] s1 (start N vs) H _ I hq) (fun fl s' hs=>?_) fun e s' hs=>hs
  have fin:∀ {σ':St} {H':Hp} {v:V} {u:Value},Inv (cxOf CX P w K mg base N qual scope f cdv A outer s H E) [] σ' H' s'→RelV v u→Q v H'→CE outer P w H s Q u s':=
    fun {σ' H' v u} J rv q=>⟨v,H',J.os,J.bare,J.base,J.hok,rv,q⟩
  cases fl with
  | ret u=>
    obtain ⟨v,σ',H',J,rv,q⟩:=hs
    exact fin J rv q
  | next=>
    obtain ⟨σ',H',J,q⟩:=hs
    exact fin (v:=V.non) (u:=Value.none) J rfl q
  | brk=>
    obtain ⟨_,_,_,q⟩:=hs
    exact False.elim q
  | cont=>
    obtain ⟨_,_,_,q⟩:=hs
    exact False.elim q
end L2
namespace L2
open PySem PySem.Spec PyProof.Rows
section
variable {X:Cx} {x:Str} {p pos:Pos} {e:Expr} {es:List Expr} {t:TA} {id T:String} {r:List V→Hp→VK→Prop}
noncomputable def tCB (r:List V→Hp→VK→Prop) (t:TA):TE:=fun σ H Q=>t σ H fun vs H1=>r vs H1 Q
theorem pe_callB (hc:CallR X (.builtin id) r) (hg:Gl X x) (hm:X.mg x=none) (hv:bootBuiltins x=some (.builtin id)) (ha:PA X (e :: es) t) (hn:x ≠ "__name__" := by decide) (hdb:(x == ("__debug__" : Str))=false:=by decide)
    (he:starEach (e :: es) X.env=(false,eval e X.env) :: starEach es X.env:=by rfl) (hpl:(backTo pos (starEach es X.env)).any (·.1)=false:=by rfl):PE X (.Call (.Name x p) (e :: es) [] pos) (tCB r t):=by
  intro pins s σ H Q I h
  refine wpAny_Call_Name_kw (ld_blt I hg hm hv ?_ hn hdb)
  exact PyProof.Rows.callWith_builtin1 (thn (ha pos pins s σ H _ I h) fun us s1 ⟨vs,H1,I1,r1,q1⟩=>hc pins s1 σ H1 vs us Q I1 r1 q1) he hpl
theorem pe_callTy (hc:CallR X (.type T) r) (hg:Gl X x) (hm:X.mg x=none) (hv:bootBuiltins x=some (.type T)) (ha:PA X (e :: es) t) (hn:x ≠ "__name__" := by decide) (hdb:(x == ("__debug__" : Str))=false:=by decide)
    (he:starEach (e :: es) X.env=(false,eval e X.env) :: starEach es X.env:=by rfl) (hpl:(backTo pos (starEach es X.env)).any (·.1)=false:=by rfl):PE X (.Call (.Name x p) (e :: es) [] pos) (tCB r t):=by
  intro pins s σ H Q I h
  refine wpAny_Call_Name_kw (ld_blt I hg hm hv ?_ hn hdb)
  exact PyProof.Rows.callWith_type1 (thn (ha pos pins s σ H _ I h) fun us s1 ⟨vs,H1,I1,r1,q1⟩=>hc pins s1 σ H1 vs us Q I1 r1 q1) he hpl
end
end L2
namespace HT
open PySem PyProof.Rows
section
open PySem.SeqAt
open PySem.AutoSeq1 (wpAny_loadPart')
open PySem.MeetsSeq PySem.MeetsSeq2 PySem.MeetsSeq3
end
section
variable {prog:Program} {w:World} {A:Around} {E:Value→Shared→Prop} {s:Shared}
theorem cat_tup {t b:Addr} {vs ws:List Value} {Q:Value→Shared→Prop} (ht:IsTup s.heap t vs.toArray) (hb:IsTup s.heap b ws.toArray) (hv:vs ≠ [])
    (h1:ws=[]→Q (.ref t) s) (h2:ws ≠ []→Q (.ref s.heap.objs.size) { s with heap:=s.heap.push { cls:=.type "tuple",data:=.seq (vs ++ ws).toArray } })
    (hsz:vs.length + ws.length ≤ sizeLine):wpAny (model prog w) A (binaryOp .Add (.ref t) (.ref b)) Q E s:=by
  obtain ⟨⟨cls,dd,data,sl⟩,ho,hc,n,hd⟩:=id ht
  obtain ⟨⟨cls2,dd2,data2,sl2⟩,ho2,hc2,n2,hd2⟩:=id hb
  simp only at hc hd hc2 hd2
  subst hc hd hc2 hd2
  have e:vs.toArray ++ ws.toArray=(vs ++ ws).toArray:=by simp
  by_cases hw:ws=[]
  · exact concat_meets ⟨_,ho,rfl⟩ ⟨_,ho2,rfl⟩ noFill_tuple_add seq_tuple_add PySem.F.slot_tuple_add PySem.F.entry_tuple_add (PySem.F.args_tuple_add_2 _ _)
      (tuple_addW1 t b vs.toArray ws.toArray n n2 dd dd2 sl sl2 (by simpa using hv) (by simp [hw])) ⟨ho,ho2,h1 hw⟩
  · refine concat_meets ⟨_,ho,rfl⟩ ⟨_,ho2,rfl⟩ noFill_tuple_add seq_tuple_add PySem.F.slot_tuple_add PySem.F.entry_tuple_add (PySem.F.args_tuple_add_2 _ _)
      (tuple_addW2 t b vs.toArray ws.toArray n n2 dd dd2 sl sl2 (by simpa using hv) (by simpa using hw) (by rw [List.size_toArray,List.size_toArray]; exact hsz)) ⟨ho,ho2,?_⟩
    rw [e]
    exact h2 hw
noncomputable def sIx (n d:Nat):Option Int→Nat
  | none=>d
  | some v=>if v < 0 then (v + (n:Int)).toNat else min v.toNat n
theorem sIx_le (n d:Nat) (hd:d ≤ n) (o:Option Int):sIx n d o ≤ n:=by
  cases o with
  | none=>exact hd
  | some v=>
    show (if v < 0 then (v + (n:Int)).toNat else min v.toNat n) ≤ n
    by_cases hv:v < 0
    · rw [if_pos hv]; omega
    · rw [if_neg hv]; exact Nat.min_le_right _ _
theorem clip_eq (v:Int) (n d:Nat):(if v < 0 then max (v + (n:Int)) 0 else min v (n:Int))=((sIx n d (some v):Nat):Int):=by
  show (if v < 0 then max (v + (n:Int)) 0 else min v (n:Int))=(((if v < 0 then (v + (n:Int)).toNat else min v.toNat n):Nat):Int)
  by_cases hv:v < 0
  · simp only [if_pos hv]; omega
  · simp only [if_neg hv]; omega
theorem adjust_gen (lo hi:Option Int) (n:Nat):Builtin.Slice.sliceAdjust lo hi 1 (n:Int)=(((sIx n 0 lo:Nat):Int),((sIx n n hi:Nat):Int)):=by
  have h1:¬ ((1:Int) < 0):=by omega
  unfold Builtin.Slice.sliceAdjust
  simp only [h1,if_false]
  refine Prod.ext ?_ ?_
  · cases lo with
    | none=>rfl
    | some v=>exact clip_eq v n 0
  · cases hi with
    | none=>rfl
    | some v=>exact clip_eq v n n
theorem places_gen (i j:Nat):Builtin.Slice.slicePlaces (i:Int) (j:Int) 1=j - i:=by
  unfold Builtin.Slice.slicePlaces
  have h1:(1:Int) > 0:=by omega
  simp only [h1,if_true,Int.ediv_one]
  split <;> omega
theorem slicePart_ {v:Value} {o:Option Int} {Q:Option Int→Shared→Prop} (p:IsPart v o) (h:Q o s):wpAny (model prog w) A (Builtin.Slice.slicePartIndex v) Q E s:=by
  cases p with
  | none=>exact slicePart_none h
  | int i t=>exact slicePart_int h
theorem sliceApplied_gen {sl:Addr} {vl vu:Value} {lo hi:Option Int} {n:Nat} {Q:Int × Int × Nat→Shared→Prop} (hs:s.heap.IsSliceOf sl vl vu .none) (pl:IsPart vl lo) (pu:IsPart vu hi)
    (h:Q (((sIx n 0 lo:Nat):Int),1,sIx n n hi - sIx n 0 lo) s):wpAny (model prog w) A (Builtin.Slice.sliceApplied (.ref sl) (pure (n:Int))) Q E s:=by
  obtain ⟨os,hos,hcs,hds⟩:=id hs
  unfold Builtin.Slice.sliceApplied Builtin.Slice.sliceFields
  refine wpAny_bind (wpAny_bind (wpAny_field hos hds (x:=vl) rfl (wpAny_bind (wpAny_field hos hds (x:=vu) rfl (wpAny_bind (wpAny_field hos hds (x:=.none) rfl (wpAny_pure ?_)))))))
  refine wpAny_bind (slicePart_none ?_)
  show wpAny _ _ (if ((1:Int) == 0)=true then _ else _) _ _ s
  rw [if_neg (by decide)]
  refine wpAny_bind (slicePart_ pl (wpAny_bind (slicePart_ pu (wpAny_bind (wpAny_pure ?_)))))
  show wpAny _ _ (match Builtin.Slice.sliceAdjust lo hi 1 (n:Int) with | (lo,hi)=>pure (lo,(1:Int),Builtin.Slice.slicePlaces lo hi 1)) _ _ s
  rw [adjust_gen lo hi n]
  show wpAny _ _ (pure (((sIx n 0 lo:Nat):Int),(1:Int),Builtin.Slice.slicePlaces ((sIx n 0 lo:Nat):Int) ((sIx n n hi:Nat):Int) 1)) _ _ s
  rw [places_gen]
  exact wpAny_pure h
theorem pick_gen (xs:Array Value) (i k:Nat):((List.range k).filterMap fun (m:Nat)=>xs[((i:Int) + (m:Int) * 1).toNat]?).toArray=((xs.toList.drop i).take k).toArray:=by
  have e:(fun (m:Nat)=>xs[((i:Int) + (m:Int) * 1).toNat]?)=fun m=>xs[i + m]?:=by
    funext m
    have:((i:Int) + (m:Int) * 1).toNat=i + m:=by omega
    rw [this]
  rw [e]
  have:=pick_run xs i k
  rw [List.filterMap_map] at this
  have e2:((fun x=>xs[x]?) ∘ fun x=>i + x)=fun m=>xs[i + m]?:=rfl
  rw [e2] at this
  rw [this]
theorem getItem_tuple_cut {t sl:Addr} {items:Array Value} {vl vu:Value} {lo hi:Option Int} {Q:Value→Shared→Prop} (ht:IsTup s.heap t items) (hs:s.heap.IsSliceOf sl vl vu .none) (pl:IsPart vl lo) (pu:IsPart vu hi)
    (hw:¬ (sIx items.size 0 lo=0∧sIx items.size items.size hi=items.size))
    (h:Q (.ref s.heap.objs.size) { s with heap:=s.heap.push { cls:=.type "tuple",data:=.seq ((items.toList.drop (sIx items.size 0 lo)).take (sIx items.size items.size hi - sIx items.size 0 lo)).toArray } })
    (hsz:items.size ≤ sizeLine):wpAny (model prog w) A (getItem (.ref t) (.ref sl)) Q E s:=by
  have htake:sizeOk (.seq ((items.toList.drop (sIx items.size 0 lo)).take (sIx items.size items.size hi - sIx items.size 0 lo)).toArray):=by
    show ((items.toList.drop (sIx items.size 0 lo)).take (sIx items.size items.size hi - sIx items.size 0 lo)).toArray.size ≤ sizeLine
    rw [List.size_toArray,List.length_take,List.length_drop,Array.length_toList]
    omega
  have hj:sIx items.size items.size hi ≤ items.size:=sIx_le _ _ (Nat.le_refl _) hi
  obtain ⟨os,hos,hcs,hds⟩:=id hs
  have hTs:s.TypeIs (.ref sl) "slice" := ⟨os,hos,hcs⟩
  unfold getItem
  try with_reducible refine wpAny_holding ?_
  first | refine wpAny_bind (wpAny_pure ?_) | skip
  refine wpAny_bind (wpAny_sequenceKey ht.typeIs (by decide) ?_)
  refine wpAny_bind (wpAny_callSpecial?_slot (name:=Str.ofString "__getitem__") ht.typeIs PyProof.Rows.slot_tuple_getitem
    (wpAny_call_entry PyProof.Rows.slot_tuple_getitem ht.typeIs entry_tuple_getitem ?_ (args_tuple_getitem _ _)))
  show wpAny _ _ (Builtin.Tuple.tupleItemsOf (.ref t) >>= _) _ _ s
  refine wpAny_bind (tupleItemsOf_ ht ?_)
  refine wpAny_bind (wpAny_typeOf hTs ?_)
  rw [if_pos (by decide)]
  refine wpAny_bind (sliceApplied_gen hs pl pu ?_)
  have hno:¬ ((((sIx items.size 0 lo:Nat):Int) == 0 && (1:Int) == 1 && (sIx items.size items.size hi - sIx items.size 0 lo) == items.size)=true):=by
    intro q
    rw [Bool.and_eq_true,Bool.and_eq_true] at q
    have q1:((sIx items.size 0 lo:Nat):Int)=0:=eq_of_beq q.1.1
    have q2:sIx items.size items.size hi - sIx items.size 0 lo=items.size:=eq_of_beq q.2
    exact hw ⟨by omega,by omega⟩
  show wpAny _ _ (if (((sIx items.size 0 lo:Nat):Int) == 0 && (1:Int) == 1 && (sIx items.size items.size hi - sIx items.size 0 lo) == items.size)=true then _ else _) _ _ s
  rw [if_neg hno,pick_gen]
  first
    | exact wpAny_bind (m:=Builtin.Tuple.tupleExact _) (wpAny_newObj_type (wpAny_pure ⟨_,rfl,wpAny_pure h⟩) htake)
    | exact wpAny_bind (m:=Builtin.Tuple.tupleExact _) (wpAny_newObj_type (wpAny_bind (wpAny_pure (wpAny_pure ⟨_,rfl,wpAny_pure h⟩))) htake)
    | exact wpAny_bind (wpAny_bind (m:=Builtin.Tuple.tupleExact _) (wpAny_newObj_type (wpAny_pure (wpAny_pure ⟨_,rfl,wpAny_pure h⟩)) htake))
    | exact wpAny_bind (wpAny_bind (m:=Builtin.Tuple.tupleExact _) (wpAny_newObj_type (wpAny_pure ⟨_,rfl,wpAny_pure h⟩) htake))
end
end HT
namespace L2
open PySem PySem.Spec PyProof.Rows
noncomputable abbrev TO:=St→Hp→(Option Int→Hp→Prop)→Prop
noncomputable def PO (X:Cx) (e:Option Expr) (t:TO):Prop:=
  ∀ (pins:List (Addr × Obj)) (s:Shared) (σ:St) (H:Hp) (Q:Option Int→Hp→Prop),Inv X pins σ H s→t σ H Q→
    wpAny (model X.prog X.w) X.A (evalPart e X.env) (fun u s'=>∃ o H',Inv X pins σ H' s'∧IsPart u o∧Q o H') X.xe s
noncomputable def tNoPart:TO:=fun _ H Q=>Q none H
noncomputable def tPart (t:TE):TO:=fun σ H Q=>t σ H fun x H1=>∃ i,x=.int i∧Q (some i) H1
section
variable {X:Cx} {e:Expr} {te:TE} {lo hi:Option Expr} {tl th:TO} {pos p2:Pos}
theorem po_none:PO X none tNoPart:=by
  intro pins s σ H Q I h
  rw [evalPart_none]
  exact wpAny_pure ⟨none,H,I,.none,h⟩
theorem po_some (h:PE X e te):PO X (some e) (tPart te):=by
  intro pins s σ H Q I hw
  rw [evalPart_some]
  refine thn (h pins s σ H _ I hw) fun u s1 ⟨x,H1,I1,r1,q1⟩=>?_
  obtain ⟨i,rfl,q⟩:=q1
  obtain ⟨t,rfl⟩:=r1
  exact ⟨some i,H1,I1,.int i t,q⟩
noncomputable def SlR (X:Cx) (r:V→Option Int→Option Int→Hp→VK→Prop):Prop:=
  ∀ (pins:List (Addr × Obj)) (s:Shared) (σ:St) (H:Hp) (x:V) (v vl vu:Value) (lo hi:Option Int) (sl:Addr) (Q:VK),Inv X pins σ H s→RelV x v→s.heap.IsSliceOf sl vl vu .none→IsPart vl lo→IsPart vu hi→r x lo hi H Q→
    ∃ T id,typeLookup (.type T) "__getitem__" = pure (some (.builtin id))∧s.TypeIs v T∧wpAny (model X.prog X.w) X.A (getItem v (.ref sl)) (EP X pins σ Q) X.xe s
theorem SlR.or {r r':V→Option Int→Option Int→Hp→VK→Prop} (h:SlR X r) (h':SlR X r'):SlR X (fun x lo hi H Q=>r x lo hi H Q∨r' x lo hi H Q):=by
  intro pins s σ H x v vl vu lo hi sl Q I rx hs pl pu q
  rcases q with q | q
  · exact h pins s σ H x v vl vu lo hi sl Q I rx hs pl pu q
  · exact h' pins s σ H x v vl vu lo hi sl Q I rx hs pl pu q
noncomputable def tSl (r:V→Option Int→Option Int→Hp→VK→Prop) (te:TE) (tl th:TO):TE:=fun σ H Q=>te σ H fun x H1=>tl σ H1 fun l H2=>th σ H2 fun u H3=>r x l u H3 Q
theorem pe_slice {r:V→Option Int→Option Int→Hp→VK→Prop} (hr:SlR X r) (he:PE X e te) (hl:PO X lo tl) (hu:PO X hi th):PE X (.Subscript e (.Slice lo hi none p2) pos) (tSl r te tl th):=by
  intro pins s σ H Q I h
  refine Subscript_ (thn (he pins s σ H _ I h) fun v s1 ⟨x,H1,I1,r1,q1⟩=>?_)
  refine wpAny_Slice (thn (hl pins s1 σ H1 _ I1 q1) fun vl s2 ⟨l,H2,I2,pl,q2⟩=>thn (hu pins s2 σ H2 _ I2 q2) fun vu s3 ⟨u,H3,I3,pu,q3⟩=>?_)
  rw [evalPart_none]
  refine wpAny_pure ?_
  have I4:Inv X pins σ H3 { s3 with heap:=s3.heap.push { cls:=.type "slice",data:=.fields #[vl,vu,.none] } }:=I3.kept (t':=s3.toks) fun b ob q=>Heap.get?_push_of_some _ q
  obtain ⟨T,id,hT,ht,hg⟩:=hr pins { s3 with heap:=s3.heap.push { cls:=.type "slice",data:=.fields #[vl,vu,.none] } } σ H3 x v vl vu l u s3.heap.objs.size Q I4 r1 (Heap.IsSliceOf.new ..) pl pu q3
  show wpAny (model X.prog X.w) X.A (subscriptTail e (.Slice lo hi none p2) v (.ref s3.heap.objs.size)) (EP X pins σ Q) X.xe { s3 with heap:=s3.heap.push { cls:=.type "slice",data:=.fields #[vl,vu,.none] } }
  exact tail_any (ops:=[.ref s3.heap.objs.size,v]) ht hT hg (by with_unfolding_all rfl)
noncomputable def cutV (xs:List V) (lo hi:Option Int):List V:=(xs.drop (HT.sIx xs.length 0 lo)).take (HT.sIx xs.length xs.length hi - HT.sIx xs.length 0 lo)
theorem cutV_length (xs:List V) (lo hi:Option Int):(cutV xs lo hi).length ≤ xs.length:=by
  unfold cutV
  rw [List.length_take,List.length_drop]
  omega
noncomputable def rSlT (K:PySem.W.Frag):V→Option Int→Option Int→Hp→VK→Prop:=fun x lo hi H Q=>∃ a xs,x=.ref a∧SqT K H a xs∧
  ¬ (HT.sIx xs.length 0 lo=0∧HT.sIx xs.length xs.length hi=xs.length)∧∀ p,H p=none→Q (.ref p) (upd H p (.tup (cutV xs lo hi)))
theorem sl_tup:SlR X (rSlT X.K):=by
  intro pins s σ H x v vl vu lo hi sl Q I rx hs pl pu h
  obtain ⟨a,xs,rfl,hx,hw,q⟩:=h
  cases rx
  obtain ⟨its,r,ht,hz⟩:=I.tuple hx
  have hlen:its.toArray.size=xs.length:=by rw [List.size_toArray]; exact r.length.symm
  refine ⟨"tuple",_,PyProof.Rows.slot_tuple_getitem.lookup,ht.typeIs,?_⟩
  refine HT.getItem_tuple_cut ht hs pl pu (by rw [hlen]; exact hw) ?_ (by rw [hlen]; exact hz)
  rw [hlen]
  refine ⟨.ref s.heap.objs.size,_,I.laid (t':=s.toks) (o:=.tup (cutV xs lo hi)) (fun b ob q=>Heap.get?_push_of_some _ q) (Nat.le_refl _) ?_,rfl,q _ (I.hok.fresh (Nat.le_refl _))⟩
  exact ⟨Nat.le_trans (cutV_length xs lo hi) hz,_,(r.drop (HT.sIx xs.length 0 lo)).take (HT.sIx xs.length xs.length hi - HT.sIx xs.length 0 lo),IsTup.new _ _⟩
noncomputable def rCatT (K:PySem.W.Frag):R2:=fun x y H Q=>∃ a b xs ys,x=.ref a∧y=.ref b∧SqT K H a xs∧SqT K H b ys∧xs ≠ []∧xs.length + ys.length ≤ sizeLine∧
  (ys=[]→Q (.ref a) H)∧(ys ≠ []→∀ p,H p=none→Q (.ref p) (upd H p (.tup (xs ++ ys))))
theorem Vals.nil_iff {xs:List V} {us:List Value} (r:Vals xs us):us=[]↔xs=[]:=by
  cases r with
  | nil=>simp
  | cons _ _=>simp
theorem op_catT:OpR X (binaryOp .Add) (rCatT X.K):=by
  intro pins s σ H x y v u Q I rx ry h
  obtain ⟨a,b,xs,ys,rfl,rfl,ha,hb,hx,hz,q1,q2⟩:=h
  cases rx
  cases ry
  obtain ⟨its,r1,p1,_⟩:=I.tuple ha
  obtain ⟨its2,r2,p2,_⟩:=I.tuple hb
  refine HT.cat_tup p1 p2 (fun z=>hx (r1.nil_iff.mp z)) (fun z=>⟨.ref a,H,I,rfl,q1 (r2.nil_iff.mp z)⟩) (fun z=>?_) (by rw [← r1.length,← r2.length]; exact hz)
  refine ⟨.ref s.heap.objs.size,_,I.laid (t':=s.toks) (o:=.tup (xs ++ ys)) (fun b ob q=>Heap.get?_push_of_some _ q) (Nat.le_refl _) ?_,rfl,q2 (fun w=>z (r2.nil_iff.mpr w)) _ (I.hok.fresh (Nat.le_refl _))⟩
  exact ⟨by rw [List.length_append]; exact hz,_,r1.append r2,IsTup.new _ _⟩
end
end L2
namespace L2
open PySem PySem.Spec PyProof.Rows
noncomputable def ixN (n:Nat) (i:Int):Option Nat:=if 0 ≤ i then (if i < n then some i.toNat else none) else if -(n:Int) ≤ i then some (i + n).toNat else none
noncomputable def atI {α:Type} (xs:List α) (i:Int):Option α:=(ixN xs.length i).bind fun j=>xs[j]?
theorem ixN_seq {n:Nat} {i:Int} {j:Nat} (h:ixN n i=some j):seqIndex? i n=some j∧j < n∧-(n:Int) ≤ i∧i < n:=by
  unfold ixN at h
  by_cases h0:0 ≤ i
  · rw [if_pos h0] at h
    by_cases h1:i < n
    · rw [if_pos h1] at h
      have e:i.toNat=j:=Option.some.inj h
      exact ⟨by rw [seqIndex_of h0 h1,e],by omega,by omega,h1⟩
    · rw [if_neg h1] at h; cases h
  · rw [if_neg h0] at h
    by_cases h1:-(n:Int) ≤ i
    · rw [if_pos h1] at h
      have e:(i + n).toNat=j:=Option.some.inj h
      exact ⟨by rw [seqIndex_neg (by omega) h1,e],by omega,h1,by omega⟩
    · rw [if_neg h1] at h; cases h
theorem atI_get {α:Type} {xs:List α} {i:Int} {v:α} (h:atI xs i=some v):∃ j,seqIndex? i xs.length=some j∧xs[j]?=some v∧j < xs.length∧-(xs.length:Int) ≤ i∧i < xs.length:=by
  unfold atI at h
  cases e:ixN xs.length i with
  | none=>rw [e] at h; cases h
  | some j=>
    rw [e] at h
    obtain ⟨h1,h2,h3,h4⟩:=ixN_seq e
    exact ⟨j,h1,h,h2,h3,h4⟩
noncomputable def PlainIx (b:Expr):Prop:=∀ o i,subscripted b false o i=operate [o,i] (getItem o i)
noncomputable def IxR (X:Cx) (r:R2):Prop:=
  ∀ (value slice:Expr) (pins:List (Addr × Obj)) (s:Shared) (σ:St) (H:Hp) (x y:V) (v u:Value) (Q:VK),Inv X pins σ H s→RelV x v→RelV y u→r x y H Q→
    subscripted slice false v u=operate [v,u] (getItem v u)→wpAny (model X.prog X.w) X.A (subscriptTail value slice v u) (EP X pins σ Q) X.xe s
noncomputable def MtR (X:Cx) (id:String) (r:V→List V→Hp→VK→Prop):Prop:=
  ∀ (pins:List (Addr × Obj)) (s:Shared) (σ:St) (H:Hp) (x:V) (xs:List V) (v:Value) (us:List Value) (Q:VK),Inv X pins σ H s→RelV x v→Vals xs us→r x xs H Q→
    wpAny (model X.prog X.w) X.A (call (.builtin id) (v :: us)) (EP X pins σ Q) X.xe s
section
variable {X:Cx} {a b:Expr} {ta tb:TE} {pos:Pos}
theorem IxR.or {r r':R2} (h:IxR X r) (h':IxR X r'):IxR X (fun x y H Q=>r x y H Q∨r' x y H Q):=by
  intro value slice pins s σ H x y v u Q I rx ry q hs
  rcases q with q | q
  · exact h value slice pins s σ H x y v u Q I rx ry q hs
  · exact h' value slice pins s σ H x y v u Q I rx ry q hs
theorem pe_ix {r:R2} (hr:IxR X r) (ha:PE X a ta) (hb:PE X b tb) (hs:PlainIx b):PE X (.Subscript a b pos) (tOp r ta tb):=by
  intro pins s σ H Q I h
  exact Subscript_ (binT ha hb I h fun v u s2 x y H2 I2 rx ry q=>hr a b pins s2 σ H2 x y v u Q I2 rx ry q (hs _ _))
noncomputable def rIxL (K:PySem.W.Frag):R2:=fun x y H Q=>∃ p xs i v,x=.ref p∧y=.int i∧SqL K H p xs∧atI xs i=some v∧Q v H
noncomputable def rIxT (K:PySem.W.Frag):R2:=fun x y H Q=>∃ p xs i v,x=.ref p∧y=.int i∧SqT K H p xs∧atI xs i=some v∧Q v H
noncomputable def rIxS:R2:=fun x y H Q=>∃ z i c,x=.str z∧y=.int i∧z.length ≤ sizeLine∧atI z.cps.toList i=some c∧Q (.str ⟨#[c]⟩) H
theorem ix_list:IxR X (rIxL X.K):=by
  intro value slice pins s σ H x y v u Q I rx ry h hs
  obtain ⟨p,xs,i,z,rfl,rfl,hq,he,q⟩:=h
  cases rx
  obtain ⟨t,rfl⟩:=ry
  obtain ⟨its,r,pl,hz⟩:=I.list hq
  obtain ⟨j,h1,h2,h3,h4,h5⟩:=atI_get he
  obtain ⟨w,ew,rw'⟩:=r.get h2
  have hl:=r.length
  have hn:=line63
  have fin:EP X pins σ Q w s:=⟨z,H,I,rw',q⟩
  by_cases h0:0 ≤ i
  · have hj:i.toNat=j:=by
      rw [seqIndex_of h0 h5] at h1
      exact Option.some.inj h1
    exact item_listR pl.isList h0 (by omega) (by rw [hj]; simpa using ew) fin hs
  · have hj:(i + (its.toArray.size:Int)).toNat=j:=by
      rw [seqIndex_neg (by omega) h4] at h1
      rw [List.size_toArray,← hl]
      exact Option.some.inj h1
    exact subscriptTail_builtinR (x:=w) pl.isList.typeIs slot_list_getitem.lookup
      (wpAny_getItem_list_neg (Q:=fun r s'=>r=w∧EP X pins σ Q r s') pl.isList (by omega) (by rw [List.size_toArray] <;> omega) (by omega) (by rw [hj]; simpa using ew) ⟨rfl,fin⟩) hs
theorem ix_tup:IxR X (rIxT X.K):=by
  intro value slice pins s σ H x y v u Q I rx ry h hs
  obtain ⟨p,xs,i,z,rfl,rfl,hq,he,q⟩:=h
  cases rx
  obtain ⟨t,rfl⟩:=ry
  obtain ⟨its,r,pl,hz⟩:=I.tuple hq
  obtain ⟨j,h1,h2,h3,h4,h5⟩:=atI_get he
  obtain ⟨w,ew,rw'⟩:=r.get h2
  have hl:=r.length
  have hn:=line63
  have fin:EP X pins σ Q w s:=⟨z,H,I,rw',q⟩
  exact subscriptTail_builtinR (x:=w) pl.typeIs slot_tuple_getitem.lookup
    (getItem_tuple (j:=j) (Q:=fun r s'=>r=w∧EP X pins σ Q r s') pl (by omega) (by omega) (by rw [List.size_toArray,← hl]; exact h1) (by simpa using ew) ⟨rfl,fin⟩) hs
theorem ix_str:IxR X rIxS:=by
  intro value slice pins s σ H x y v u Q I rx ry h hs
  obtain ⟨z,i,c,rfl,rfl,hz,he,q⟩:=h
  obtain ⟨t,rfl⟩:=rx
  obtain ⟨t',rfl⟩:=ry
  obtain ⟨j,h1,h2,h3,h4,h5⟩:=atI_get he
  have hl:z.cps.toList.length=z.length:=by simp [Str.length]
  rw [hl] at h1 h4 h5
  have hn:=line63
  exact tail_any (typeIs_str s z t) slot_str_getitem.lookup (getItem_str (c:=c) (by
    have e1:decide (i < -(2 ^ 63:Int))=false:=decide_eq_false (by omega)
    have e2:decide (i ≥ 2 ^ 63)=false:=decide_eq_false (by omega)
    rw [e1,e2,Bool.or_false]) (by rw [h1]; simpa using h2) ⟨.str ⟨#[c]⟩,H,I.tok _,⟨_,rfl⟩,q⟩) hs
noncomputable def rIx (K:PySem.W.Frag):R2:=fun x y H Q=>rIxL K x y H Q∨rIxT K x y H Q∨rIxS x y H Q
theorem ix_seq:IxR X (rIx X.K):=ix_list.or (ix_tup.or ix_str)
theorem mapSeq_set (its:List Value) (n j:Nat) (u:Value):Obj.mapSeq (·.setIfInBounds j u) { cls:=.type "list",data:=.seq its.toArray n }={ cls:=.type "list",data:=.seq (its.set j u).toArray n }:=by
  simp [Obj.mapSeq]
theorem Inv.lst {pins:List (Addr × Obj)} {σ:St} {H:Hp} {s:Shared} {p:Addr} {xs:List V} (I:Inv X pins σ H s) (h:H p=some (.lst xs)) :
    ∃ (its:List Value) (n:Nat),Vals xs its∧s.heap.get? p=some { cls:=.type "list",data:=.seq its.toArray n }∧xs.length ≤ sizeLine:=by
  obtain ⟨z,its,n,r,e⟩:=I.hok p _ h
  exact ⟨its,n,r,e,z⟩
theorem Inv.lstUpd {pins:List (Addr × Obj)} {σ:St} {H:Hp} {s:Shared} {p:Addr} {xs ys:List V} {its its':List Value} {n n':Nat} {f:Obj→Obj} (I:Inv X pins σ H s) (h:H p=some (.lst xs))
    (ho:s.heap.get? p=some { cls:=.type "list",data:=.seq its.toArray n }) (hf:f { cls:=.type "list",data:=.seq its.toArray n }={ cls:=.type "list",data:=.seq its'.toArray n' }) (r:Vals ys its') (hz:ys.length ≤ sizeLine) (t:Nat) :
    Inv X pins σ (upd H p (.lst ys)) { s with heap:=s.heap.update p f,toks:=t }:=by
  have e:(s.heap.update p f).get? p=some { cls:=.type "list",data:=.seq its'.toArray n' }:=by
    rw [Heap.get?_update_self f ho (by rw [hf] <;> rfl),hf]
  refine I.write (x:=p) (e:=p) (by rw [h]; trivial) (.inl rfl) (fun b u hb q=>(Heap.get?_update_other _ _ (Ne.symm hb)).trans q) ⟨_,e⟩ ?_
  exact ⟨hz,its',n',r,e⟩
noncomputable def rSetL:V→V→V→Hp→(Hp→Prop)→Prop:=fun o i v H Q=>∃ p xs k j,o=.ref p∧i=.int k∧H p=some (.lst xs)∧ixN xs.length k=some j∧Q (upd H p (.lst (xs.set j v)))
theorem set_list:PSet X rSetL:=by
  intro pins s σ H o i v ov iv u Q I ro ri rv h
  obtain ⟨p,xs,k,j,rfl,rfl,hp,hj,q⟩:=h
  cases ro
  obtain ⟨t,rfl⟩:=ri
  obtain ⟨its,n,r,ho,hz⟩:=I.lst hp
  obtain ⟨h1,h2,h3,h4⟩:=ixN_seq hj
  have hl:=r.length
  have hn:=line63
  have I':Inv X pins σ (upd H p (.lst (xs.set j v))) { s with heap:=s.heap.update p (Obj.mapSeq (·.setIfInBounds j u)) }:=
    I.lstUpd hp ho (mapSeq_set its n j u) (r.set rv j) (by rw [List.length_set]; exact hz) s.toks
  by_cases h0:0 ≤ k
  · have hk:k.toNat=j:=by
      rw [seqIndex_of h0 h4] at h1
      exact Option.some.inj h1
    exact PySem.W.ki_setAt ho h0 (by omega) (by rw [List.size_toArray,← hl]; exact h4) (by rw [hk]; exact ⟨_,I',q⟩)
  · have hk:(k + (its.toArray.size:Int)).toNat=j:=by
      rw [seqIndex_neg (by omega) h3] at h1
      rw [List.size_toArray,← hl]
      exact Option.some.inj h1
    exact PySem.W.ki_setBack ho (by omega) (by rw [List.size_toArray,← hl]; exact h3) (by omega) (by rw [hk]; exact ⟨_,I',q⟩)
theorem slice_bounds (lo hi:Option Int) (n:Nat):(sliceBounds lo hi none n).1=((HT.sIx n 0 lo:Nat):Int)∧(sliceBounds lo hi none n).2.1=((HT.sIx n n hi:Nat):Int)∧(sliceBounds lo hi none n).2.2=1:=by
  refine ⟨?_,?_,rfl⟩
  · cases lo with
    | none=>simp [sliceBounds,HT.sIx]
    | some i=>
      simp only [sliceBounds,HT.sIx,Option.getD_none,show (1:Int) > 0 by decide,if_true]
      by_cases h:i < 0
      · simp only [h,if_true] <;> omega
      · simp only [h,if_false] <;> omega
  · cases hi with
    | none=>simp [sliceBounds,HT.sIx]
    | some i=>
      simp only [sliceBounds,HT.sIx,Option.getD_none,show (1:Int) > 0 by decide,if_true]
      by_cases h:i < 0
      · simp only [h,if_true] <;> omega
      · simp only [h,if_false] <;> omega
theorem slicePick_cut (its:List Value) (lo hi:Option Int):slicePick its.toArray lo hi none=((its.drop (HT.sIx its.length 0 lo)).take (HT.sIx its.length its.length hi - HT.sIx its.length 0 lo)).toArray:=by
  obtain ⟨h1,h2,h3⟩:=slice_bounds lo hi its.toArray.size
  unfold slicePick
  rw [h1,h2,h3]
  simp only [sliceRange_one,pick_run,List.size_toArray] <;> rfl
noncomputable def rSlL (K:PySem.W.Frag):V→Option Int→Option Int→Hp→VK→Prop:=fun x lo hi H Q=>∃ a xs,x=.ref a∧SqL K H a xs∧∀ p,H p=none→Q (.ref p) (upd H p (.lst (cutV xs lo hi)))
theorem sl_list:SlR X (rSlL X.K):=by
  intro pins s σ H x v vl vu lo hi sl Q I rx hs pl pu h
  obtain ⟨a,xs,rfl,hx,q⟩:=h
  cases rx
  obtain ⟨its,r,ht,hz⟩:=I.list hx
  have hlen:=r.length
  refine ⟨"list",_,slot_list_getitem.lookup,ht.isList.typeIs,?_⟩
  refine wpAny_getItem_list_slice ht.isList hs pl pu .none (by simp) ?_ (by rw [List.size_toArray] <;> omega)
  rw [slicePick_cut,← hlen]
  refine ⟨.ref s.heap.objs.size,_,I.laid (t':=s.toks) (o:=.lst (cutV xs lo hi)) (fun b ob q=>Heap.get?_push_of_some _ q) (Nat.le_refl _) ?_,rfl,q _ (I.hok.fresh (Nat.le_refl _))⟩
  exact ⟨Nat.le_trans (cutV_length xs lo hi) hz,_,0,(r.drop (HT.sIx xs.length 0 lo)).take (HT.sIx xs.length xs.length hi - HT.sIx xs.length 0 lo),Heap.get?_push_size _ rfl⟩
theorem call_len_seq:CallR X (.builtin "len") (fun xs H Q=>∃ p ys,xs=[.ref p]∧(SqL X.K H p ys∨SqT X.K H p ys)∧Q (.int ys.length) H):=by
  intro pins s σ H xs us Q I r h
  obtain ⟨p,ys,rfl,hq,q⟩:=h
  obtain ⟨u,rfl,rx⟩:=vals1 r
  cases rx
  have hn:=line63
  rcases hq with hq | hq
  · obtain ⟨its,r',pl,hz⟩:=I.list hq
    have hlen:=r'.length
    exact Calls.call_len_list pl.isList (by simp only [List.size_toArray] <;> omega) ⟨.int ys.length,H,I.tok _,⟨s.toks + 1,by rw [List.size_toArray,hlen]⟩,q⟩
  · obtain ⟨its,r',pl,hz⟩:=I.tuple hq
    have hlen:=r'.length
    exact len_tuple pl (by simp only [List.size_toArray] <;> omega) ⟨.int ys.length,H,I.tok _,⟨s.toks + 1,by rw [List.size_toArray,hlen]⟩,q⟩
theorem call_len_str:CallR X (.builtin "len") (fun xs H Q=>∃ z,xs=[.str z]∧z.length ≤ sizeLine∧Q (.int z.length) H):=by
  intro pins s σ H xs us Q I r h
  obtain ⟨z,rfl,hz,q⟩:=h
  obtain ⟨u,rfl,t,rfl⟩:=vals1 r
  have hn:=line63
  exact len_str (by omega) ⟨.int z.length,H,I.tok _,⟨_,rfl⟩,q⟩
theorem CallR.or {f:Value} {r r':List V→Hp→VK→Prop} (h:CallR X f r) (h':CallR X f r'):CallR X f (fun xs H Q=>r xs H Q∨r' xs H Q):=by
  intro pins s σ H xs us Q I rs q
  rcases q with q | q
  · exact h pins s σ H xs us Q I rs q
  · exact h' pins s σ H xs us Q I rs q
theorem call_tuple_of:CallR X (.type "tuple") (fun xs H Q=>∃ p ys,xs=[.ref p]∧((SqL X.K H p ys∧∀ l,H l=none→Q (.ref l) (upd H l (.tup ys)))∨(SqT X.K H p ys∧Q (.ref p) H))):=by
  intro pins s σ H xs us Q I r h
  obtain ⟨p,ys,rfl,h⟩:=h
  obtain ⟨u,rfl,rx⟩:=vals1 r
  cases rx
  rcases h with ⟨hq,q⟩ | ⟨hq,q⟩
  · obtain ⟨its,r',pl,hz⟩:=I.list hq
    have hlen:=r'.length
    refine call_tuple_list pl.isList (fun h' kp=>?_) (by simp only [List.size_toArray] <;> omega)
    have I1:Inv X pins σ H { s with heap:=h' }:=I.kept (t':=s.toks) kp
    have I2:Inv X pins σ (upd H h'.objs.size (.tup ys)) { s with heap:=h'.push { cls:=.type "tuple",data:=.seq its.toArray } }:=
      I1.laid (t':=s.toks) (fun b o e=>Heap.get?_push_of_some _ e) (Nat.le_refl _) (show ObjOk X.prog X.w _ _ _ (.tup ys) from ⟨hz,its,r',IsTup.new _ _⟩)
    exact ⟨.ref h'.objs.size,_,I2,rfl,q _ (I1.hok.fresh (Nat.le_refl _))⟩
  · obtain ⟨its,r',pl,hz⟩:=I.tuple hq
    exact call_tuple_same pl ⟨.ref p,H,I,rfl,q⟩
noncomputable def tyV (K:PySem.W.Frag) (T:String) (x:V) (H:Hp):Prop:=match x with
  | .str _=>T = "str"
  | .int _=>T = "int"
  | .ref p=>(T = "list" ∧ ∃ xs,SqL K H p xs)∨(T = "tuple" ∧ ∃ o,K.lookup p=some o∧o.cls=.type "tuple" ∧ o.dict=none)∨
      (T = "dict" ∧ ((∃ kvs,H p=some (.dK kvs))∨∃ kvs,H p=some (.dT kvs)))∨(T = "set" ∧ ∃ S n,H p=some (.set S n))
  | _=>False
theorem tyV_is {pins:List (Addr × Obj)} {σ:St} {H:Hp} {s:Shared} {T:String} {x:V} {v:Value} (I:Inv X pins σ H s) (r:RelV x v) (ty:tyV X.K T x H) :
    s.TypeIs v T∧∀ a,v=.ref a→∃ ob,s.heap.get? a=some ob∧ob.dict=none:=by
  cases x with
  | str z=>
    obtain ⟨t,rfl⟩:=r
    cases (show T = "str" from ty)
    exact ⟨typeIs_str s z t,fun _ e=>nomatch e⟩
  | int i=>
    obtain ⟨t,rfl⟩:=r
    cases (show T = "int" from ty)
    exact ⟨typeIs_int s i t,fun _ e=>nomatch e⟩
  | ref p=>
    cases r
    rcases ty with ⟨rfl,xs,hq⟩ | ⟨rfl,o,hk,hc,hd⟩ | ⟨rfl,hk⟩ | ⟨rfl,S,n,hk⟩
    · obtain ⟨its,_,pl,_⟩:=I.list hq
      refine ⟨pl.isList.typeIs,fun a e=>?_⟩
      cases e
      obtain ⟨o,n,e,c,hd,_⟩:=pl
      exact ⟨o,e,hd⟩
    · refine ⟨⟨o,I.kIn p o hk,hc⟩,fun a e=>?_⟩
      cases e
      exact ⟨o,I.kIn _ o hk,hd⟩
    · have z:∃ o,s.heap.get? p=some o∧o.ExactDict:=by
        rcases hk with ⟨kvs,hk⟩ | ⟨kvs,hk⟩
        · obtain ⟨_,_,_,_,o,_,_,e,ex,_⟩:=I.hok p _ hk
          exact ⟨o,e,ex⟩
        · obtain ⟨_,_,_,_,o,_,_,e,ex,_⟩:=I.hok p _ hk
          exact ⟨o,e,ex⟩
      obtain ⟨o,e,ex⟩:=z
      refine ⟨⟨o,e,ex.1⟩,fun a e2=>?_⟩
      cases e2
      exact ⟨o,e,ex.2.1⟩
    · obtain ⟨o,_,_,_,e,ex,_⟩:=I.hok p _ hk
      refine ⟨⟨o,e,ex.1⟩,fun a e2=>?_⟩
      cases e2
      exact ⟨o,e,ex.2.1⟩
  | _=>exact False.elim ty
noncomputable def tBM0 (K:PySem.W.Frag) (T:String) (r:V→List V→Hp→VK→Prop) (to:TE):TE:=fun σ H Q=>to σ H fun x H1=>tyV K T x H1∧r x [] H1 Q
noncomputable def tBM (K:PySem.W.Frag) (T:String) (r:V→List V→Hp→VK→Prop) (to:TE) (t:TA):TE:=fun σ H Q=>to σ H fun x H1=>tyV K T x H1∧t σ H1 fun xs H2=>r x xs H2 Q
variable {o e:Expr} {es:List Expr} {to:TE} {t:TA} {name:Str} {apos cpos:Pos} {T id:String} {r:V→List V→Hp→VK→Prop}
theorem pe_bm0 (pa:PlainAttrs T) (slot:Slot T name id) (hty:typeOf (.builtin id)=pure (.type "method_descriptor")) (hm:MtR X id r) (ho:PE X o to)
    (hbase:attributeBase o name X.env (eval o X.env)=eval o X.env:=by rfl) (hline:(apos.endLine == cpos.line)=true:=by rfl):PE X (.Call (.Attribute o name apos) [] [] cpos) (tBM0 X.K T r to):=by
  intro pins s σ H Q I h
  refine wpAny_Call_method0_late hbase hline (thn (ho pins s σ H _ I h) fun v s1 ⟨x,H1,I1,r1,ty,q1⟩=>?_)
  obtain ⟨h1,h2⟩:=tyV_is I1 r1 ty
  exact ⟨T,id,pa,slot,hty,h1,h2,Calls.callWith_builtin rfl (PySem.evalArgs_none (hm pins s1 σ H1 x [] v [] Q I1 r1 .nil q1))⟩
theorem pe_bm (pa:PlainAttrs T) (slot:Slot T name id) (hty:typeOf (.builtin id)=pure (.type "method_descriptor")) (hm:MtR X id r) (ho:PE X o to) (ha:PA X (e :: es) t)
    (hbase:attributeBase o name X.env (eval o X.env)=eval o X.env:=by rfl)
    (hfew:((backTo cpos (starEach (e :: es) X.env)).all (fun x=>!x.1) && (backToKw cpos (keywordEach [] X.env)).all (fun x=>x.1.isSome)
      && decide ((e :: es).length + ([]:List Keyword).length + (if ([]:List Keyword).isEmpty then 0 else 1) < 30))=true:=by rfl)
    (hline:(apos.endLine == cpos.line)=true:=by rfl) (hs:starEach (e :: es) X.env=(false,eval e X.env) :: starEach es X.env:=by rfl) (hplain:(backTo cpos (starEach es X.env)).any (·.1)=false:=by rfl) :
    PE X (.Call (.Attribute o name apos) (e :: es) [] cpos) (tBM X.K T r to t):=by
  intro pins s σ H Q I h
  refine wpAny_Call_method_late hbase hfew hline rfl (thn (ho pins s σ H _ I h) fun v s1 ⟨x,H1,I1,r1,ty,q1⟩=>?_)
  obtain ⟨h1,h2⟩:=tyV_is I1 r1 ty
  refine ⟨T,id,pa,slot,hty,h1,h2,?_⟩
  have hA:=ha cpos pins s1 σ H1 _ I1 q1
  rw [hs] at hA ⊢
  refine Calls.callWith_builtin (by show (false || (backTo cpos (starEach es X.env)).any (·.1))=false; rw [hplain] <;> rfl) (Calls.evalArgs_plain ?_)
  exact thn hA fun us s2 ⟨vs,H2,I2,r2,q2⟩=>hm pins s2 σ H2 x vs v us Q I2 r1 r2 q2
end
end L2
namespace L2
open PySem PySem.Spec PyProof.Rows
noncomputable def MtM (X:Cx) (id:String) (r:V→List V→Hp→VK→Prop):Prop:=
  ∀ (pins:List (Addr × Obj)) (s:Shared) (σ:St) (H:Hp) (x:V) (xs:List V) (v:Value) (us:List Value) (Q:VK),Inv X pins σ H s→RelV x v→Vals xs us→r x xs H Q→
    wpAny (model X.prog X.w) X.A (call (.builtin id) (v :: us)) (EP X pins σ Q) X.xe s
theorem Vals.one:∀ {x:V} {us:List Value},Vals [x] us→∃ u,us=[u]∧RelV x u
  | _,_,.cons r .nil=>⟨_,rfl,r⟩
theorem Vals.zero:∀ {us:List Value},Vals [] us→us=[]
  | _,.nil=>rfl
theorem Vals.dropLast {xs:List V} {us:List Value} (h:Vals xs us):Vals xs.dropLast us.dropLast:=by
  induction h with
  | nil=>exact .nil
  | cons r t ih=>
    cases t with
    | nil=>exact .nil
    | cons q t'=>exact .cons r ih
theorem Vals.rep {xs:List V} {us:List Value} (h:Vals xs us):∀ k:Nat,Vals (List.replicate k xs).flatten (List.replicate k us).flatten
  | 0=>.nil
  | k + 1=>by
    rw [List.replicate_succ,List.replicate_succ,List.flatten_cons,List.flatten_cons]
    exact Vals.append h (Vals.rep h k)
theorem erase_last {α:Type} (l:List α):l.eraseIdx (l.length - 1)=l.dropLast:=by
  induction l with
  | nil=>rfl
  | cons a r ih=>
    cases r with
    | nil=>rfl
    | cons b r=>
      have e:(a :: b :: r).length - 1=((b :: r).length - 1) + 1:=by
        have h1:(a :: b :: r).length=r.length + 2:=rfl
        have h2:(b :: r).length=r.length + 1:=rfl
        omega
      rw [e,List.eraseIdx_cons_succ,ih]
      all_goals rfl
theorem foldl_rep (its:List Value):∀ (k:Nat) (acc:List Value),
    List.foldl (fun x1 x2=>x1 ++ x2) acc.toArray (List.replicate k its.toArray)=(acc ++ (List.replicate k its).flatten).toArray
  | 0,acc=>by simp
  | k + 1,acc=>by
    have e:acc.toArray ++ its.toArray=(acc ++ its).toArray:=by simp
    have e2:(acc ++ its) ++ (List.replicate k its).flatten=acc ++ (List.replicate (k + 1) its).flatten:=by
      rw [List.replicate_succ,List.flatten_cons,List.append_assoc]
    rw [← e2,← foldl_rep its k (acc ++ its),← e,List.replicate_succ,List.foldl_cons]
section
variable {X:Cx} {pins:List (Addr × Obj)} {σ:St} {H:Hp} {s:Shared} {l b:Addr} {xs ys zs:List V}
theorem Inv.lset {its its':List Value} {n:Nat} {f:Array Value→Array Value} {t':Nat} (I:Inv X pins σ H s) (hH:H l=some (.lst xs))
    (e:s.heap.get? l=some { cls:=.type "list",data:=.seq its.toArray n }) (hf:f its.toArray=its'.toArray) (hv:Vals ys its') (hz:ys.length ≤ sizeLine) :
    Inv X pins σ (upd H l (.lst ys)) { s with heap:=s.heap.update l (Obj.mapSeq f),toks:=t' }:=by
  have q:=PySem.IsL.update e f
  rw [hf] at q
  refine I.write (x:=l) (e:=l) (by rw [hH]; exact trivial) (.inl rfl) (fun b' u hb hu=>(Heap.get?_update_other s.heap (Obj.mapSeq f) (Ne.symm hb)).trans hu) ⟨_,q⟩ ?_
  exact ⟨hz,its',_,hv,q⟩
theorem Inv.lnew {its:List Value} {t':Nat} (I:Inv X pins σ H s) (hv:Vals ys its) (hz:ys.length ≤ sizeLine) :
    Inv X pins σ (upd H s.heap.objs.size (.lst ys)) { s with heap:=s.heap.push { cls:=.type "list",data:=.seq its.toArray },toks:=t' }:=
  I.laid (fun _ _ q=>Heap.get?_push_of_some _ q) (Nat.le_refl _) ⟨hz,its,0,hv,Heap.get?_push_size _ rfl⟩
theorem Inv.fresh (I:Inv X pins σ H s):H s.heap.objs.size=none:=I.hok.fresh (Nat.le_refl _)
theorem Inv.lstM (I:Inv X pins σ H s) (hH:H l=some (.lst xs)):xs.length ≤ sizeLine∧∃ (its:List Value) (n:Nat),Vals xs its∧xs.length=its.length∧s.heap.get? l=some { cls:=.type "list",data:=.seq its.toArray n }:=by
  obtain ⟨z,its,n,r,e⟩:=I.hok l _ hH
  exact ⟨z,its,n,r,r.length,e⟩
theorem notLongL {n:Nat} (h:n ≤ sizeLine):Builtin.List.listTooLong n=false:=by
  unfold Builtin.List.listTooLong
  exact decide_eq_false (by omega)
end
section
variable {X:Cx}
noncomputable def rAppend:V→List V→Hp→VK→Prop:=fun x vs H Q=>∃ l xs y,x=.ref l∧vs=[y]∧H l=some (.lst xs)∧xs.length < sizeLine∧Q .non (upd H l (.lst (xs ++ [y])))
theorem mt_append:MtM X "list.append" rAppend:=by
  intro pins s σ H x vs v us Q I rx rv h
  obtain ⟨l,xs,y,rfl,rfl,hH,hz,q⟩:=h
  cases rx
  obtain ⟨u,rfl,ru⟩:=rv.one
  obtain ⟨z,its,n,r,hl,e⟩:=I.lstM hH
  refine call_meets F.slot_list_append ⟨_,e,rfl⟩ F.entry_list_append (F.args_list_append_2 _ _) (PySem.list_append l its.toArray n u (by rw [List.size_toArray]; omega)) ⟨e,?_⟩
  refine ⟨.non,_,I.lset (its':=its ++ [u]) hH e (by simp) (r.append (.cons ru .nil)) ?_,rfl,q⟩
  rw [List.length_append,List.length_singleton]
  omega
noncomputable def rPop:V→List V→Hp→VK→Prop:=fun x vs H Q=>∃ l xs y,x=.ref l∧vs=[]∧H l=some (.lst xs)∧xs[xs.length - 1]?=some y∧Q y (upd H l (.lst xs.dropLast))
theorem mt_pop:MtM X "list.pop" rPop:=by
  intro pins s σ H x vs v us Q I rx rv h
  obtain ⟨l,xs,y,rfl,rfl,hH,hy,q⟩:=h
  cases rx
  have hus:=rv.zero
  subst hus
  obtain ⟨z,its,n,r,hl,e⟩:=I.lstM hH
  obtain ⟨u,hu,ru⟩:=r.get hy
  have hy':its.toArray[its.toArray.size - 1]?=some u:=by
    show its.toArray[its.length - 1]?=some u
    rw [← Array.getElem?_toList,← hl]
    exact hu
  refine call_meets F.slot_list_pop ⟨_,e,rfl⟩ F.entry_list_pop (F.args_list_pop_1 _) (MeetsSeq.list_pop_last l its.toArray n u hy' (by rw [List.size_toArray]; omega)) ⟨e,?_⟩
  refine ⟨y,_,I.lset (its':=its.dropLast) hH e ?_ r.dropLast ?_,ru,q⟩
  · show its.toArray.eraseIdxIfInBounds (its.toArray.size - 1)=its.dropLast.toArray
    rw [List.size_toArray,List.eraseIdxIfInBounds_toArray,erase_last]
  · rw [List.length_dropLast]
    omega
noncomputable def rCat:R2:=fun x y H Q=>∃ l b xs zs,x=.ref l∧y=.ref b∧H l=some (.lst xs)∧H b=some (.lst zs)∧xs.length + zs.length ≤ sizeLine∧∀ p,H p=none→Q (.ref p) (upd H p (.lst (xs ++ zs)))
theorem op_cat:OpR X (binaryOp .Add) rCat:=by
  intro pins s σ H x y v u Q I rx ry h
  obtain ⟨l,b,xs,zs,rfl,rfl,hH,hB,hz,q⟩:=h
  cases rx
  cases ry
  obtain ⟨z,its,n,r,hl,e⟩:=I.lstM hH
  obtain ⟨z2,its2,n2,r2,hl2,e2⟩:=I.lstM hB
  refine PySem.P.add_list e e2 ?_ (by rw [List.size_toArray,List.size_toArray]; omega)
  have ea:its.toArray ++ its2.toArray=(its ++ its2).toArray:=by simp
  rw [ea]
  exact ⟨.ref _,_,I.lnew (t':=s.toks) (r.append r2) (by rw [List.length_append]; omega),rfl,q _ I.fresh⟩
noncomputable def rRep:R2:=fun x y H Q=>∃ l k xs,x=.ref l∧y=.int k∧H l=some (.lst xs)∧-(2 ^ 63) ≤ k∧k < 2 ^ 63∧xs.length * k.toNat ≤ sizeLine∧
  ∀ p,H p=none→Q (.ref p) (upd H p (.lst (List.replicate k.toNat xs).flatten))
theorem len_rep {α:Type} (xs:List α) (k:Nat):(List.replicate k xs).flatten.length=k * xs.length:=by
  induction k with
  | zero=>simp
  | succ k ih=>rw [List.replicate_succ,List.flatten_cons,List.length_append,ih,Nat.succ_mul,Nat.add_comm]
theorem op_rep:OpR X (binaryOp .Mult) rRep:=by
  intro pins s σ H x y v u Q I rx ry h
  obtain ⟨l,k,xs,rfl,rfl,hH,h1,h2,hz,q⟩:=h
  cases rx
  obtain ⟨t,rfl⟩:=ry
  obtain ⟨z,its,n,r,hl,e⟩:=I.lstM hH
  have hlen:its.toArray.size * k.toNat ≤ sizeLine:=by rw [List.size_toArray,← hl]; exact hz
  have hcap:¬ its.toArray.size * k.toNat > (2 ^ 63 - 1) / 8:=by
    have:(sizeLine:Nat) ≤ (2 ^ 63 - 1) / 8:=by decide
    omega
  have hfit:¬ (!Builtin.List.listFitsIndex k)=true:=by
    rw [fitsIndex_both h1 h2]
    exact Bool.false_ne_true
  have hlong:¬ Builtin.List.listTooLong (its.toArray.size * k.toNat)=true:=by
    rw [notLongL hlen]
    exact Bool.false_ne_true
  have hnew:List.foldl (fun x1 x2=>x1 ++ x2) #[] (List.replicate (if its.toArray.isEmpty=true then 0 else k.toNat) its.toArray)=(List.replicate k.toNat its).flatten.toArray:=by
    have f0:∀ m:Nat,List.foldl (fun x1 x2=>x1 ++ x2) #[] (List.replicate m its.toArray)=(List.replicate m its).flatten.toArray:=fun m=>by
      have:=foldl_rep its m []
      rw [List.nil_append] at this
      exact this
    rw [f0]
    cases its with
    | nil=>simp
    | cons a r'=>rw [if_neg (by simp)]
  refine wpAny_binaryOp_repeat_ref (T := "list") (U := "int") (by decide) ⟨_,e,rfl⟩ (fun s'=>typeIs_int s' k t) noFill_list_mul F.fills_int_mul F.slot_int_rmul repeat_list F.slot_int_index.lookup
    (call_meets F.slot_int_rmul (typeIs_int s k t) F.entry_int_rmul (F.args_int_rmul_2 _ _) (int___rmul___int_list k t l its.toArray n)
      ⟨e,rfl,⟨_,e,rfl⟩,call_meets F.slot_list_mul ⟨_,e,rfl⟩ F.entry_list_mul (F.args_list_mul_2 _ _) (AutoListH.list___mul___list_int_3 l its.toArray n k t hfit hcap hlong) ⟨e,?_⟩⟩)
  rw [hnew]
  exact ⟨.ref _,_,I.lnew (t':=s.toks) (r.rep k.toNat) (by rw [len_rep,Nat.mul_comm]; exact hz),rfl,q _ I.fresh⟩
end
section
variable {prog:Program} {w:World} {A:Around} {E:Value→Shared→Prop} {s:Shared}
end
section
variable {X:Cx}
end
end L2
namespace Att
open PySem PySem.W PySem.Calls PyProof.Rows
theorem ints_of_wellAll {P:Params} {h:Heap}:∀ (ns:List Int) (vs:List Value),WellAll P h vs (ns.map WData.int)→IntsAre vs ns:=by
  intro ns
  induction ns with
  | nil=>
    intro vs w
    rw [List.map_nil] at w
    cases w
    exact .nil
  | cons n ns ih=>
    intro vs w
    rw [List.map_cons] at w
    cases w with
    | cons a b=>
      cases a
      exact .cons _ _ (ih _ b)
theorem script_of {l:OpenLaw} {n:Nat} (hn:l.most=some n) {P:Params} {h:Heap} {args:List WData} {vals:List Value}
    (hpre:l.row.toRowW.claim.pre args=true) (hwl:WellAll P h vals args) :
    ∃ a vs ns,vals=[Value.ref a]∧args=[WData.list (ns.map WData.int)]∧h.get? a=some { cls:=.type "list",data:=.seq vs.toArray }∧IntsAre vs ns∧ns.length ≤ n:=by
  have hsh:WShape.hasAll [] args [.list .int]=true:=(pre_splitW hpre).1
  have hc:l.pre.holds [] { args:=args }=true:=(pre_splitW hpre).2
  obtain ⟨d,r,rfl,h1,h2⟩:=hasAllW_cons hsh
  obtain rfl:=hasAllW_nil h2
  obtain ⟨xs,rfl,h3⟩:=hasW_list h1
  obtain ⟨ns,rfl⟩:=items_int h3
  have hlen:ns.length ≤ n:=by
    unfold OpenLaw.pre at hc
    have h4:(WTm.not (.lt (.lit (.int (n:Int))) (.len (.arg 0)))).holds [] { args:=[.list (ns.map .int)] }=true:=by
      have h4:=(holds_andW hc).1
      rw [hn] at h4
      exact h4
    have h5:=condW_of h4 (w_not (w_lt w_lit (w_len_list (w_arg rfl))))
    rw [List.length_map] at h5
    refine Nat.le_of_not_lt fun q=>?_
    have q':(n:Int) < ((ns.length:Nat):Int):=by omega
    first
      | (rw [decide_eq_true q'] at h5; exact absurd h5 (by decide))
      | (simp at h5; omega)
  cases hwl with
  | cons w1 w2=>
    cases w2
    cases w1 with
    | list ho hall=>exact ⟨_,_,ns,rfl,rfl,ho,ints_of_wellAll ns _ hall,hlen⟩
theorem post_true (l:OpenLaw) (args:List WData):l.row.toRowW.claim.post args (.bool true) args=true:=
  postW_of (r:=l.row.toRowW) (X:=(true == true))
    (show WShape.has [] (.bool true) .bool=true by first | rfl | decide | simp [WShape.has,WShape.arms,WShape.armsAll])
    (show (WTm.eq .res (.lit (.bool true))).value [] { args:=args,res:=some (.bool true),after:=args }=some (.bool (true == true)) from w_eq_bool (w_res rfl) w_lit) rfl
theorem attach_call {l:OpenLaw} {n:Nat} {q:Program} {loose:List Str} {XP:(Str→Option Value)→Heap→Prop} {YP:World→Heap→Prop} {d:DefRec}
    (hn:l.most=some n) (hdf:d.params.defaults=[])
    (call:∀ (w:World) (s₀ s₁:Shared) (mg mb:Str→Option Value) (fa:Addr) (o:Obj) (pm cd doc:Value) (a:Addr) (vs:List Value) (ns:List Int),
      Ground q loose [] XP w s₀ mg mb s₁.heap→YP w s₁.heap→
      s₁.heap.get? fa=some o→o.data=.func (docDef d.name d.params d.body d.scope pm cd doc)→s₁.heap.CodeRec cd d.name→mg d.name=some (.ref fa)→
      s₁.heap.get? a=some { cls:=.type "list",data:=.seq vs.toArray }→IntsAre vs ns→ns.length ≤ n→s₁.gens=#[]→
      codeAny (model l.prog w) callerA (.call (.ref fa) ⟨[.ref a],[]⟩) (fun r s'=>r=.ok (.ret (.bool true))∧OldK s₁.heap s'.heap∧s'.os=s₁.os∧AllBare s'.gens) s₁) :
    WalkO q loose XP YP l.row.toRowW d [] (fun f vs=>PySem.call f vs):=by
  intro w s₀ s₁ mg mb G Y fa o pm cd doc dV kV ho hd hcd hD hmg hg args vals as hpre hlay hrd hwl hlo
  obtain rfl:dV=.none:=Dflts.none hD hdf
  obtain rfl:kV=.none:=Dflts.noKw hD
  obtain ⟨a,vs,ns,rfl,rfl,hobj,hints,hlen⟩:=script_of hn hpre hwl
  refine enter_call (codeAny_mono (call w s₀ s₁ mg mb fa o pm cd doc a vs ns G Y ho (fd_plain hd) hcd hmg hobj hints hlen hg) fun r s' hq=>?_)
  obtain ⟨rfl,h2,h3,h4⟩:=hq
  exact ⟨.inl ⟨.bool true,.bool true,[],rfl,fun _=>rfl,.bool true,post_true l _,fun _=>⟨List.Pairwise.nil,fun _ hm=>(nomatch hm)⟩⟩,h2,h3,h4⟩
section
variable {prog:Program} {w:World} {A:Around} {E:Value→Shared→Prop} {s:Shared} {K:Frag}
end
end Att
namespace L2
open PySem PySem.Spec PyProof.Rows
theorem vals_ints:∀ {vs:List Value} {ns:List Int},IntsAre vs ns→Vals (ns.map V.int) vs
  | _,_,.nil=>.nil
  | _,_,.cons n t h=>.cons ⟨t,rfl⟩ (vals_ints h)
noncomputable def Only (H:Hp):Prop:=∀ b,H b=none∨∃ o xs,H b=some (.frz o (.lst xs))
theorem law_call {P:Program} {w:World} {K:PySem.W.Frag} {mg mb:Str→Option Value} {CX:CXT} {k:Nat} {fa a:Addr} {fd:FuncData} {x:Str} {sp:Sp} {s₁:Shared} {vs:List Value} {ns:List Int}
    (KX:K.In s₁.heap) (hns:s₁.heap.Ns mainGlobals mg) (hb:s₁.heap.Ns builtinsNs mb) (hbb:∀ x:Str,x ≠ "__name__" → mb x=bootBuiltins x) (hlim:s₁.heap.NoLimit) (hg:s₁.gens=#[])
    (ha:s₁.heap.get? a=some { cls:=.type "list",data:=.seq vs.toArray }) (hi:IntsAre vs ns) (hl:ns.length ≤ sizeLine) (hr:Room k callerA)
    (F:∀ base:Heap,K.In base→base.Ns mainGlobals mg→FnOk P w K mg base CX k fa fd [x] sp) (hbind:∀ (s:Shared) (u:Value),BindsTo s fd ⟨[u],[]⟩ [(x,u)])
    (hsp:∀ H:Hp,Only H→SqL K H a (ns.map V.int)→sp [.ref a] H (fun v _=>v=.bl true) fun _ _ _=>False)
    (hCX:∀ H e s',CX [] H s₁ (fun _ _ _=>False) e s'→False) :
    codeAny (model P w) callerA (.call (.ref fa) ⟨[.ref a],[]⟩) (fun r s'=>r=.ok (.ret (.bool true))∧OldK s₁.heap s'.heap∧s'.os=s₁.os∧AllBare s'.gens) s₁:=by
  have rv:=vals_ints hi
  have lenV:=hi.length
  -- from an abstract heap in which nothing but the script may be tracked
  have core:∀ H:Hp,Only H→SqL K H a (ns.map V.int)→HOk P w H s₁.heap→(∀ b,H b ≠ none→b=a)→(H a ≠ none→K.lookup a=none)→
      codeAny (model P w) callerA (.call (.ref fa) ⟨[.ref a],[]⟩) (fun r s'=>r=.ok (.ret (.bool true))∧OldK s₁.heap s'.heap∧s'.os=s₁.os∧AllBare s'.gens) s₁:=by
    intro H hO hS hok hA hK
    have base_of:∀ {b:Addr} {o:Obj},s₁.heap.get? b=some o→H b=none→(hidT s₁.heap H).get? b=some o:=fun e n=>hidT_get e n
    have noA:∀ {b:Addr} {o:Obj} {es:Array DictEntry} {ep:Nat},s₁.heap.get? b=some o→o.data=.dict es ep→H b=none:=fun {b o es ep} e d=>by
      cases q:H b with
      | none=>rfl
      | some u=>
        have e':b=a:=hA b (by rw [q]; simp)
        subst e'
        rw [ha] at e; cases e
        have d':Data.seq vs.toArray _=Data.dict es ep:=d
        cases d'
    have nsK:∀ {b:Addr} {m:Str→Option Value},s₁.heap.Ns b m→(hidT s₁.heap H).Ns b m:=fun {b m} ⟨o,es,ep,e,d,r⟩=>⟨o,es,ep,base_of e (noA e d),d,r⟩
    have hKb:K.In (hidT s₁.heap H):=fun b o e=>base_of (KX b o e) (by
      cases q:H b with
      | none=>rfl
      | some u=>
        have e':b=a:=hA b (by rw [q]; simp)
        subst e'
        rw [hK (by rw [q]; simp)] at e; cases e)
    have hM:Mod K mg (hidT s₁.heap H):=⟨hKb,nsK hns,⟨mb,nsK hb,hbb⟩,let ⟨mc,h1,h2⟩:=hlim; ⟨mc,nsK h1,h2⟩⟩
    have e0:Env0 P w K mg (hidT s₁.heap H) callerA [] s₁ H:=⟨rfl,hM,fun b o e=>of_hidT e,Nat.le_of_eq (hidT_size _ _),trivial,fun b hb=>absurd (show b ∈ ([]:List Addr) from hb) (by simp),hok,.of_eq hg⟩
    refine codeAny_mono ((F _ hKb (nsK hns)).run callerA [] s₁ H ⟨[.ref a],[]⟩ [.ref a] [.ref a] _ _ hr e0 (hbind s₁ (.ref a)) (.cons rfl .nil) (hsp H hO hS)) fun r s' h=>?_
    cases r with
    | error e=>exact (hCX H e s' h).elim
    | ok fl=>
      cases fl with
      | next=>exact False.elim h
      | brk=>exact False.elim h
      | cont=>exact False.elim h
      | ret u=>
        obtain ⟨v,H',os,bare,un,hok',r',q⟩:=h
        have q':v=.bl true:=q
        subst q'
        obtain rfl:u=Value.bool true:=r'
        refine ⟨rfl,OldK.of_keep fun b o e=>?_,os,bare⟩
        cases q:H b with
        | none=>exact un.keep b o e q (by intro z; exact absurd (show b ∈ ([]:List Addr) from z) (by simp)) (by simp)
        | some u=>
          rcases hO b with z | ⟨ob,xs,z⟩
          · rw [q] at z; cases z
          · have z2:=un.frzs b ob _ z
            obtain ⟨e1,_⟩:=hok b _ z
            obtain ⟨e2,_⟩:=hok' b _ z2
            rw [e] at e1; cases e1
            exact e2
  cases hk:K.lookup a with
  | some o=>
    -- the script is one of the module's own objects
    have e:=KX a o hk
    rw [ha] at e
    cases e
    refine core (fun _=>none) (fun _=>.inl rfl) (.inr ⟨_,vs.toArray,_,hk,rfl,rfl,rfl,by rw [List.size_toArray,lenV]; exact hl,by simpa using rv⟩) (fun b u z=>by have z':(none:Option HO)=some u:=z; cases z') (fun b z=>absurd rfl z) fun z=>absurd rfl z
  | none=>
    refine core (fun b=>if b=a then some (.frz { cls:=.type "list",data:=.seq vs.toArray } (.lst (ns.map V.int))) else none) (fun b=>?_) (.inl (.inr ⟨{ cls:=.type "list",data:=.seq vs.toArray },if_pos rfl⟩)) (fun b u z=>?_) (fun b z=>?_) fun _=>hk
    · by_cases hb:b=a
      · exact .inr ⟨_,_,if_pos hb⟩
      · exact .inl (if_neg hb)
    · by_cases hb:b=a
      · have z':=(if_pos hb).symm.trans z
        cases z'
        subst hb
        exact ⟨ha,by rw [List.length_map]; exact hl,vs,_,rv,ha⟩
      · have z':=(if_neg hb).symm.trans z
        cases z'
    · by_cases hb:b=a
      · exact hb
      · exact absurd (if_neg hb) z
end L2
namespace L2
open PySem PySem.Spec PyProof.Rows
theorem walk_of {l:PySem.W.OpenLaw} {n k:Nat} {q:Program} {loose:List Str} {XP:(Str→Option Value)→Heap→Prop} {YP:World→Heap→Prop} {d:DefRec} {K:Params→PySem.W.Frag} {CX:World→CXT} {sp:World→Sp} {x:Str}
    (hn:l.most=some n) (hn2:n ≤ sizeLine) (hdf:d.params.defaults=[]) (hr:Room k callerA)
    (hY:∀ (w:World) (h:Heap),YP w h→(K w.params).In h)
    (F:∀ (w:World) (mg:Str→Option Value) (fa:Addr) (h:Heap),(K w.params).In h→h.Ns mainGlobals mg→mg d.name=some (.ref fa)→
      ∃ fd:FuncData,(∀ (s:Shared) (u:Value),BindsTo s fd ⟨[u],[]⟩ [(x,u)])∧
        ∀ base:Heap,(K w.params).In base→base.Ns mainGlobals mg→FnOk l.prog w (K w.params) mg base (CX w) k fa fd [x] (sp w))
    (hsp:∀ (w:World) (H:Hp) (a:Addr) (ns:List Int),ns.length ≤ n→Only H→SqL (K w.params) H a (ns.map V.int)→sp w [.ref a] H (fun v _=>v=.bl true) fun _ _ _=>False)
    (hCX:∀ (w:World) (H:Hp) (s:Shared) (e:Value) (s':Shared),CX w [] H s (fun _ _ _=>False) e s'→False) :
    PySem.W.WalkO q loose XP YP l.row.toRowW d [] (fun f vs=>PySem.call f vs):=by
  refine Att.attach_call hn hdf fun w s₀ s₁ mg mb fa o pm cd doc a vs ns G Y ho hd hcd hmg hobj hints hlen hg=>?_
  have KX:=hY w _ Y
  obtain ⟨fd,hb,hF⟩:=F w mg fa _ KX G.T.g hmg
  exact law_call KX G.T.g G.T.b G.T.builtins G.T.nolimit hg hobj hints (Nat.le_trans hlen hn2) hr hF hb (fun H hO hS=>hsp w H a ns hlen hO hS) fun H e s'=>hCX w H s₁ e s'
end L2
namespace L2
open PySem PySem.Spec PyProof.Rows
noncomputable def defArgs (s:Stmt):Arguments:=match s with
  | .FunctionDef _ a _ _ _ _ _ _ _ _=>a
  | _=>{ posonlyargs:=[],args:=[],vararg:=none,kwonlyargs:=[],kw_defaults:=[],kwarg:=none,defaults:=[] }
noncomputable def defBody (s:Stmt):List Stmt:=match s with
  | .FunctionDef _ _ b _ _ _ _ _ _ _=>b
  | _=>[]
noncomputable def defScope (s:Stmt):Scope:=match s with
  | .FunctionDef _ _ _ _ _ _ sc _ _ _=>sc
  | _=>{ kind:=.function,names:=[],isGenerator:=false,isCoroutine:=false }
noncomputable abbrev CX0:CXT:=fun _ _ _ _ _ _=>False
structure Fun (K:PySem.W.Frag) (x qual:Str) (st:Stmt) (f:Addr) (fd:FuncData):Prop where
  ex:∃ (oc:Value) (od:Option Addr) (kV doc pm:Value) (an:Option Addr) (cdv ct:Value) (osl:Array (Option Value)),
    fd=PySem.W.fnOf x qual (defArgs st) (defBody st) (defScope st) .none kV doc pm an cdv ct∧K.lookup f=some ⟨oc,od,.func fd,osl⟩∧PySem.W.codeIn K cdv qual=true
  kp:PySem.W.keepIn K (.ref f)=true
section
variable {P:Program} {w:World} {K:PySem.W.Frag} {mg:Str→Option Value} {base:Heap}
theorem Fun.ok {x qual:Str} {st:Stmt} {f:Addr} {fd:FuncData} {N ps:List Str} {k:Nat} {sp:Sp} (F:Fun K x qual st f fd) (S:FnScope N ps (defScope st)) (len:∀ vs H Q E,sp vs H Q E→vs.length=ps.length)
    (hbody:∀ (cdv:Value) (A:Around) (outer:List Env) (s:Shared) (H:Hp) (vs:List V) (Q:VK) (E:XK),Room k (A.deeper (envOfC qual (defScope st) s.heap.objs.size f cdv))→sp vs H Q E→
      ∃ t,PSs (cxOf CX0 P w K mg base N qual (defScope st) f cdv A outer s H E).nox (defBody st) t∧t { nx:=fun _ H'=>Q .non H',rt:=Q } (start N vs) H):FnOk P w K mg base CX0 (k + 1) f fd ps sp:=by
  obtain ⟨oc,od,kV,doc,pm,an,cdv,ct,osl,rfl,lk,hcd⟩:=F.ex
  refine fn_of lk hcd S len fun A outer s H vs Q E hr hsp=>?_
  obtain ⟨t,h,q⟩:=hbody cdv A outer s H vs Q E hr hsp
  exact ⟨t,h.nox,q⟩
theorem Fun.binds {x qual:Str} {st:Stmt} {f:Addr} {fd:FuncData} {ps:List Str} (F:Fun K x qual st f fd)
    (h:∀ (kV doc pm:Value) (an:Option Addr) (cdv ct:Value) (us:List Value),us.length=ps.length→bindArgs (PySem.W.fnOf x qual (defArgs st) (defBody st) (defScope st) .none kV doc pm an cdv ct) ⟨us,[]⟩=pure (ps.zip us)):Binds K fd ps []:=by
  obtain ⟨oc,od,kV,doc,pm,an,cdv,ct,osl,rfl,lk,hcd⟩:=F.ex
  exact .all (h kV doc pm an cdv ct)
theorem fun_mk {x qual:Str} {st:Stmt} {f:Addr} {oc:Value} {od an:Option Addr} {osl:Array (Option Value)} {kV doc pm cdv ct:Value} (l:K.lookup f=some ⟨oc,od,.func (PySem.W.fnOf x qual (defArgs st) (defBody st) (defScope st) .none kV doc pm an cdv ct),osl⟩)
    (c:PySem.W.codeIn K cdv qual=true) (k:PySem.W.keepIn K (.ref f)=true):Fun K x qual st f (PySem.W.fnOf x qual (defArgs st) (defBody st) (defScope st) .none kV doc pm an cdv ct):=⟨⟨oc,od,kV,doc,pm,an,cdv,ct,osl,rfl,l,c⟩,k⟩
end
section
variable {X:Cx}
end
noncomputable def Same (H H':Hp):Prop:=∀ b o,H b=some o→H' b=some o
theorem Same.refl (H:Hp):Same H H:=fun _ _ h=>h
theorem Same.trans {H H1 H2:Hp} (a:Same H H1) (b:Same H1 H2):Same H H2:=fun c o h=>b c o (a c o h)
theorem Same.free {H H':Hp} (e:Same H H') {l:Addr} (h:H' l=Option.none):H l=Option.none:=by
  cases q:H l with
  | none=>rfl
  | some o=>
    rw [e l o q] at h
    cases h
theorem Same.seq {K:PySem.W.Frag} {H H':Hp} {a:Addr} {xs:List V} (e:Same H H') (h:SqL K H a xs):SqL K H' a xs:=by
  rcases h with (h | ⟨o,h⟩) | h
  · exact .inl (.inl (e _ _ h))
  · exact .inl (.inr ⟨o,e _ _ h⟩)
  · exact .inr h
end L2
set_option Elab.async false
set_option linter.all false
set_option maxRecDepth 100000
set_option maxHeartbeats 4000000
namespace PF
open PySem PySem.Spec L2
open PyProof.Rows hiding St
inductive D where
  | non | bl (b:Bool) | int (i:Int) | str (x:Str) | tup (l:List D) | lst (l:List D) | scr (l:List Int) | dic (ks:List Key) (l:List D)
mutual
noncomputable def Rep (K:PySem.W.Frag) (H:Hp):D→V→Prop
  | .non,v=>v=.non
  | .bl b,v=>v=.bl b
  | .int i,v=>v=.int i
  | .str x,v=>v=.str x
  | .tup l,v=>∃ a vs,v=.ref a∧SqT K H a vs∧RepL K H l vs
  | .lst l,v=>∃ a vs,v=.ref a∧H a=some (.lst vs)∧RepL K H l vs
  | .scr l,v=>∃ a,v=.ref a∧SqL K H a (l.map V.int)
  | .dic ks l,v=>∃ a kvs,v=.ref a∧H a=some (.dK kvs)∧kvs.map (·.1)=ks∧RepL K H l (kvs.map (·.2))
noncomputable def RepL (K:PySem.W.Frag) (H:Hp):List D→List V→Prop
  | [],vs=>vs=[]
  | d :: l,vs=>∃ v r,vs=v :: r∧Rep K H d v∧RepL K H l r
end
mutual
noncomputable def noList:D→Bool
  | .lst _=>false
  | .scr _=>false
  | .dic _ _=>false
  | .tup l=>noLists l
  | .non=>true
  | .bl _=>true
  | .int _=>true
  | .str _=>true
noncomputable def noLists:List D→Bool
  | []=>true
  | d :: l=>noList d && noLists l
end
section
variable {K:PySem.W.Frag} {H H':Hp}
theorem SqT.same (e:Same H H') {a:Addr} {xs:List V} (h:SqT K H a xs):SqT K H' a xs:=by
  rcases h with (h | ⟨o,h⟩) | h
  · exact .inl (.inl (e _ _ h))
  · exact .inl (.inr ⟨o,e _ _ h⟩)
  · exact .inr h
mutual
theorem Rep.mono (e:Same H H'):∀ {d:D} {v:V},Rep K H d v→Rep K H' d v
  | .non,_,h=>h
  | .bl _,_,h=>h
  | .int _,_,h=>h
  | .str _,_,h=>h
  | .tup l,v,h=>by
    obtain ⟨a,vs,q1,q,r⟩:=h
    exact ⟨a,vs,q1,SqT.same e q,RepL.mono e r⟩
  | .lst l,v,h=>by
    obtain ⟨a,vs,q1,q,r⟩:=h
    exact ⟨a,vs,q1,e a _ q,RepL.mono e r⟩
  | .scr l,v,h=>by
    obtain ⟨a,q1,q⟩:=h
    exact ⟨a,q1,e.seq q⟩
  | .dic ks l,v,h=>by
    obtain ⟨a,kvs,q1,q,q2,r⟩:=h
    exact ⟨a,kvs,q1,e a _ q,q2,RepL.mono e r⟩
theorem RepL.mono (e:Same H H'):∀ {l:List D} {vs:List V},RepL K H l vs→RepL K H' l vs
  | [],_,h=>h
  | d :: l,vs,h=>by
    obtain ⟨v,r,q1,q,t⟩:=h
    exact ⟨v,r,q1,Rep.mono e q,RepL.mono e t⟩
end
mutual
theorem Rep.impT (hT:∀ a vs,SqT K H a vs→SqT K H' a vs):∀ {d:D} {v:V},noList d=true→Rep K H d v→Rep K H' d v
  | .non,_,_,h=>h
  | .bl _,_,_,h=>h
  | .int _,_,_,h=>h
  | .str _,_,_,h=>h
  | .tup l,v,n,h=>by
    obtain ⟨a,vs,e,q,r⟩:=h
    exact ⟨a,vs,e,hT a vs q,RepL.impT hT (by simpa [noList] using n) r⟩
  | .lst l,v,n,h=>by simp [noList] at n
  | .scr l,v,n,h=>by simp [noList] at n
  | .dic ks l,v,n,h=>by simp [noList] at n
theorem RepL.impT (hT:∀ a vs,SqT K H a vs→SqT K H' a vs):∀ {l:List D} {vs:List V},noLists l=true→RepL K H l vs→RepL K H' l vs
  | [],_,_,h=>h
  | d :: l,vs,n,h=>by
    obtain ⟨v,r,e,q,t⟩:=h
    simp [noLists] at n
    exact ⟨v,r,e,Rep.impT hT n.1 q,RepL.impT hT n.2 t⟩
end
theorem RepL.length:∀ {l:List D} {vs:List V},RepL K H l vs→l.length=vs.length
  | [],_,h=>by have h':_=[]:=h; subst h'; rfl
  | d :: l,_,h=>by
    obtain ⟨v,r,rfl,_,t⟩:=h
    simp [RepL.length t]
theorem RepL.get:∀ {l:List D} {vs:List V} {i:Nat} {d:D},RepL K H l vs→l[i]?=some d→∃ v,vs[i]?=some v∧Rep K H d v
  | [],_,_,_,_,e=>by simp at e
  | d :: l,_,0,_,h,e=>by
    obtain ⟨v,r,rfl,q,t⟩:=h
    simp at e; subst e
    exact ⟨v,rfl,q⟩
  | d :: l,_,i + 1,_,h,e=>by
    obtain ⟨v,r,rfl,q,t⟩:=h
    obtain ⟨u,e',q'⟩:=RepL.get t (i:=i) (by simpa using e)
    exact ⟨u,by simpa using e',q'⟩
theorem RepL.append:∀ {l l':List D} {vs vs':List V},RepL K H l vs→RepL K H l' vs'→RepL K H (l ++ l') (vs ++ vs')
  | [],_,_,_,h,h'=>by have e:_=[]:=h; subst e; exact h'
  | d :: l,_,_,_,h,h'=>by
    obtain ⟨v,r,rfl,q,t⟩:=h
    exact ⟨v,_,rfl,q,RepL.append t h'⟩
theorem RepL.nil:RepL K H [] []:=rfl
theorem RepL.cons {d:D} {v:V} {l:List D} {vs:List V} (q:Rep K H d v) (t:RepL K H l vs):RepL K H (d :: l) (v :: vs):=⟨v,vs,rfl,q,t⟩
theorem RepL.one {d:D} {v:V} (q:Rep K H d v):RepL K H [d] [v]:=.cons q .nil
theorem RepL.take:∀ {l:List D} {vs:List V} (n:Nat),RepL K H l vs→RepL K H (l.take n) (vs.take n)
  | _,_,0,_=>rfl
  | [],_,n + 1,h=>by have e:_=[]:=h; subst e; rfl
  | d :: l,_,n + 1,h=>by
    obtain ⟨v,r,rfl,q,t⟩:=h
    exact ⟨v,_,rfl,q,RepL.take n t⟩
theorem RepL.drop:∀ {l:List D} {vs:List V} (n:Nat),RepL K H l vs→RepL K H (l.drop n) (vs.drop n)
  | _,_,0,h=>by simpa using h
  | [],_,n + 1,h=>by have e:_=[]:=h; subst e; rfl
  | d :: l,_,n + 1,h=>by
    obtain ⟨v,r,rfl,q,t⟩:=h
    simpa using RepL.drop n t
theorem RepL.set {d:D} {v:V} (q:Rep K H d v):∀ {l:List D} {vs:List V} (n:Nat),RepL K H l vs→RepL K H (l.set n d) (vs.set n v)
  | [],_,_,h=>by have e:_=[]:=h; subst e; rfl
  | _ :: l,_,0,h=>by
    obtain ⟨v',r,rfl,_,t⟩:=h
    exact ⟨v,r,rfl,q,t⟩
  | d' :: l,_,n + 1,h=>by
    obtain ⟨v',r,rfl,q',t⟩:=h
    exact ⟨v',_,rfl,q',RepL.set q n t⟩
theorem RepL.reverse:∀ {l:List D} {vs:List V},RepL K H l vs→RepL K H l.reverse vs.reverse
  | [],_,h=>by have e:_=[]:=h; subst e; rfl
  | d :: l,_,h=>by
    obtain ⟨v,r,rfl,q,t⟩:=h
    rw [List.reverse_cons,List.reverse_cons]
    exact RepL.append (RepL.reverse t) (.one q)
theorem RepL.rep {l:List D} {vs:List V} (h:RepL K H l vs):∀ k:Nat,RepL K H (List.replicate k l).flatten (List.replicate k vs).flatten
  | 0=>rfl
  | k + 1=>by
    rw [List.replicate_succ,List.replicate_succ,List.flatten_cons,List.flatten_cons]
    exact RepL.append h (RepL.rep h k)
theorem RepL.dropLast:∀ {l:List D} {vs:List V},RepL K H l vs→RepL K H l.dropLast vs.dropLast:=fun {l vs} h=>by
  rw [List.dropLast_eq_take,List.dropLast_eq_take,h.length]
  exact h.take _
end
inductive MO where
  | lst (xs:List V) | dK (kvs:List (Key × V))
noncomputable def MO.ho:MO→HO
  | .lst xs=>.lst xs
  | .dK kvs=>.dK kvs
structure Ext (F H F' H':Hp):Prop where
  ff:Same F F'
  hh:Same H H'
  fh:Same F' H'
  new:∀ a (xs:MO),H a=some xs.ho→F a=none→F' a=none
theorem Ext.refl {F H:Hp} (h:Same F H):Ext F H F H:=⟨Same.refl _,Same.refl _,h,fun _ _ _ e=>e⟩
theorem Ext.trans {F H F1 H1 F2 H2:Hp} (a:Ext F H F1 H1) (b:Ext F1 H1 F2 H2):Ext F H F2 H2:=
  ⟨a.ff.trans b.ff,a.hh.trans b.hh,b.fh,fun c xs h f=>b.new c xs (a.hh _ _ h) (a.new c xs h f)⟩
theorem same_upd {H:Hp} {p:Addr} {o:HO} (h:H p=none):Same H (upd H p o):=fun b u q=>by rw [upd_ne (ne_of_none q h)]; exact q
theorem same_upd2 {F H:Hp} {p:Addr} {o:HO} (fh:Same F H):Same (upd F p o) (upd H p o):=fun b u q=>by
  by_cases e:b=p
  · subst e; rw [upd_same] at q ⊢; exact q
  · rw [upd_ne e] at q ⊢; exact fh b u q
theorem ext_alloc {F H:Hp} {p:Addr} {o:HO} (fh:Same F H) (hp:H p=none):Ext F H (upd F p o) (upd H p o):=
  ⟨same_upd (fh.free hp),same_upd hp,same_upd2 fh,fun a xs h f=>by rw [upd_ne (ne_of_none h hp)]; exact f⟩
theorem ext_own {F H:Hp} {p:Addr} {o:HO} (fh:Same F H) (hp:H p=none):Ext F H F (upd H p o):=
  ⟨Same.refl _,same_upd hp,fh.trans (same_upd hp),fun _ _ _ f=>f⟩
noncomputable abbrev M (α:Type):=Option (Except Addr α)
noncomputable def mb {α β:Type} (x:M α) (f:α→M β):M β:=match x with
  | none=>none
  | some (.error c)=>some (.error c)
  | some (.ok a)=>f a
inductive VR where
  | ok (d:D) | bor (l:List D) | bod (ks:List Key) (l:List D)
inductive Slot where
  | val (d:D) | own (l:List D) | owd (ks:List Key) (l:List D)
noncomputable abbrev DS:=List (Option Slot)
noncomputable def toD:VR→D
  | .ok d=>d
  | .bor l=>.lst l
  | .bod ks l=>.dic ks l
structure StOk (K:PySem.W.Frag) (F0 H0 F H:Hp) (σ:St) (S:DS):Prop where
  ext:Ext F0 H0 F H
  len:S.length=σ.length
  val:∀ (i:Nat) (d:D),S[i]?=some (some (Slot.val d))→∃ v,σ[i]?=some (some v)∧Rep K F d v
  own:∀ (i:Nat) (l:List D),S[i]?=some (some (Slot.own l))→∃ a vs,σ[i]?=some (some (V.ref a))∧H0 a=none∧F a=none∧H a=some (.lst vs)∧RepL K F l vs
  sep:∀ (i j:Nat) (l l':List D) (a:Addr),i ≠ j→S[i]?=some (some (Slot.own l))→S[j]?=some (some (Slot.own l'))→σ[i]?=some (some (V.ref a))→σ[j]?=some (some (V.ref a))→False
  owd:∀ (i:Nat) (ks:List Key) (l:List D),S[i]?=some (some (Slot.owd ks l))→∃ a kvs,σ[i]?=some (some (V.ref a))∧H0 a=none∧F a=none∧H a=some (.dK kvs)∧kvs.map (·.1)=ks∧RepL K F l (kvs.map (·.2))
  sepd:∀ (i j:Nat) (ks ks':List Key) (l l':List D) (a:Addr),i ≠ j→S[i]?=some (some (Slot.owd ks l))→S[j]?=some (some (Slot.owd ks' l'))→σ[i]?=some (some (V.ref a))→σ[j]?=some (some (V.ref a))→False
section
variable {K:PySem.W.Frag} {F0 H0 F H F' H':Hp} {σ:St} {S:DS}
theorem StOk.step (s:StOk K F0 H0 F H σ S) (e:Ext F H F' H'):StOk K F0 H0 F' H' σ S where
  ext:=s.ext.trans e
  len:=s.len
  val:=fun i d h=>let ⟨v,a,b⟩:=s.val i d h; ⟨v,a,b.mono e.ff⟩
  own:=fun i l h=>let ⟨a,vs,h1,h2,h3,h4,h5⟩:=s.own i l h; ⟨a,vs,h1,h2,e.new a (.lst vs) h4 h3,e.hh _ _ h4,h5.mono e.ff⟩
  sep:=s.sep
  owd:=fun i ks l h=>let ⟨a,kvs,h1,h2,h3,h4,h5,h6⟩:=s.owd i ks l h; ⟨a,kvs,h1,h2,e.new a (.dK kvs) h4 h3,e.hh _ _ h4,h5,h6.mono e.ff⟩
  sepd:=s.sepd
theorem get_set_some {α:Type} {l:List (Option α)} {i j:Nat} {x y:α} (h:(l.set i (some x))[j]?=some (some y)):(i=j∧i < l.length∧x=y)∨(i ≠ j∧l[j]?=some (some y)):=by
  by_cases e:i=j
  · subst e
    rw [List.getElem?_set_self'] at h
    cases q:l[i]? with
    | none=>rw [q] at h; simp at h
    | some z=>
      rw [q] at h
      simp at h
      have:i < l.length:=by
        rcases Nat.lt_or_ge i l.length with h1 | h1
        · exact h1
        · rw [List.getElem?_eq_none h1] at q; cases q
      exact .inl ⟨rfl,this,h⟩
  · rw [List.getElem?_set_ne e] at h
    exact .inr ⟨e,h⟩
theorem set_self {α:Type} {l:List α} {i:Nat} {x:α} (h:i < l.length):(l.set i x)[i]?=some x:=by simp [h]
theorem StOk.setVal (s:StOk K F0 H0 F H σ S) {d:D} {v:V} (r:Rep K F d v) (i:Nat):StOk K F0 H0 F H (σ.set i (some v)) (S.set i (some (.val d))) where
  ext:=s.ext
  len:=by rw [List.length_set,List.length_set]; exact s.len
  val:=fun j d' h=>by
    rcases get_set_some h with ⟨rfl,hl,e⟩ | ⟨ne,h⟩
    · injection e with e; subst e
      exact ⟨v,set_self (by rw [← s.len]; exact hl),r⟩
    · obtain ⟨v',a,b⟩:=s.val j d' h
      exact ⟨v',by rw [List.getElem?_set_ne ne]; exact a,b⟩
  own:=fun j l h=>by
    rcases get_set_some h with ⟨rfl,hl,e⟩ | ⟨ne,h⟩
    · cases e
    · obtain ⟨a,vs,h1,h2⟩:=s.own j l h
      exact ⟨a,vs,by rw [List.getElem?_set_ne ne]; exact h1,h2⟩
  sep:=fun j k l l' a ne h1 h2 h3 h4=>by
    rcases get_set_some h1 with ⟨rfl,_,e⟩ | ⟨n1,h1⟩
    · cases e
    · rcases get_set_some h2 with ⟨rfl,_,e⟩ | ⟨n2,h2⟩
      · cases e
      · rw [List.getElem?_set_ne n1] at h3
        rw [List.getElem?_set_ne n2] at h4
        exact s.sep j k l l' a ne h1 h2 h3 h4
  owd:=fun j ks l h=>by
    rcases get_set_some h with ⟨rfl,hl,e⟩ | ⟨ne,h⟩
    · cases e
    · obtain ⟨a,vs,h1,h2⟩:=s.owd j ks l h
      exact ⟨a,vs,by rw [List.getElem?_set_ne ne]; exact h1,h2⟩
  sepd:=fun j k ks ks' l l' a ne h1 h2 h3 h4=>by
    rcases get_set_some h1 with ⟨rfl,_,e⟩ | ⟨n1,h1⟩
    · cases e
    · rcases get_set_some h2 with ⟨rfl,_,e⟩ | ⟨n2,h2⟩
      · cases e
      · rw [List.getElem?_set_ne n1] at h3
        rw [List.getElem?_set_ne n2] at h4
        exact s.sepd j k ks ks' l l' a ne h1 h2 h3 h4
theorem StOk.setOwn (s:StOk K F0 H0 F H σ S) (e:Ext F H F' H') {a:Addr} {vs:List V} {l:List D} (hn:H a=none) (hf:F' a=none) (hh:H' a=some (.lst vs)) (r:RepL K F' l vs) (i:Nat) :
    StOk K F0 H0 F' H' (σ.set i (some (.ref a))) (S.set i (some (.own l))) where
  ext:=s.ext.trans e
  len:=by rw [List.length_set,List.length_set]; exact s.len
  val:=fun j d' h=>by
    rcases get_set_some h with ⟨rfl,hl,q⟩ | ⟨ne,h⟩
    · cases q
    · obtain ⟨v',a',b⟩:=s.val j d' h
      exact ⟨v',by rw [List.getElem?_set_ne ne]; exact a',b.mono e.ff⟩
  own:=fun j l' h=>by
    rcases get_set_some h with ⟨rfl,hl,q⟩ | ⟨ne,h⟩
    · injection q with q; subst q
      exact ⟨a,vs,set_self (by rw [← s.len]; exact hl),s.ext.hh.free hn,hf,hh,r⟩
    · obtain ⟨b,ws,h1,h2,h3,h4,h5⟩:=(s.step e).own j l' h
      exact ⟨b,ws,by rw [List.getElem?_set_ne ne]; exact h1,h2,h3,h4,h5⟩
  sep:=fun j k l1 l2 b ne h1 h2 h3 h4=>by
    have old:∀ (m:Nat) (l:List D),S[m]?=some (some (Slot.own l))→σ[m]?=some (some (V.ref a))→False:=fun m l q z=>by
      obtain ⟨c,ws,z1,_,_,z4,_⟩:=s.own m l q
      rw [z] at z1
      have z2:V.ref a=V.ref c:=by simpa using z1
      injection z2 with z2
      subst z2
      rw [hn] at z4; cases z4
    rcases get_set_some h1 with ⟨rfl,hl,_⟩ | ⟨n1,h1⟩
    · rw [set_self (by rw [← s.len]; exact hl)] at h3
      rcases get_set_some h2 with ⟨rfl,_,_⟩ | ⟨n2,h2⟩
      · exact ne rfl
      · rw [List.getElem?_set_ne n2] at h4
        have z:V.ref a=V.ref b:=by simpa using h3
        injection z with z; subst z
        exact old k l2 h2 h4
    · rw [List.getElem?_set_ne n1] at h3
      rcases get_set_some h2 with ⟨rfl,hl,_⟩ | ⟨n2,h2⟩
      · rw [set_self (by rw [← s.len]; exact hl)] at h4
        have z:V.ref a=V.ref b:=by simpa using h4
        injection z with z; subst z
        exact old j l1 h1 h3
      · rw [List.getElem?_set_ne n2] at h4
        exact s.sep j k l1 l2 b ne h1 h2 h3 h4
  owd:=fun j ks l' h=>by
    rcases get_set_some h with ⟨rfl,hl,q⟩ | ⟨ne,h⟩
    · cases q
    · obtain ⟨b,ws,h1,h2⟩:=(s.step e).owd j ks l' h
      exact ⟨b,ws,by rw [List.getElem?_set_ne ne]; exact h1,h2⟩
  sepd:=fun j k ks ks' l1 l2 b ne h1 h2 h3 h4=>by
    rcases get_set_some h1 with ⟨rfl,_,q⟩ | ⟨n1,h1⟩
    · cases q
    · rcases get_set_some h2 with ⟨rfl,_,q⟩ | ⟨n2,h2⟩
      · cases q
      · rw [List.getElem?_set_ne n1] at h3
        rw [List.getElem?_set_ne n2] at h4
        exact s.sepd j k ks ks' l1 l2 b ne h1 h2 h3 h4
theorem StOk.setOwd (s:StOk K F0 H0 F H σ S) (e:Ext F H F' H') {a:Addr} {kvs:List (Key × V)} {ks:List Key} {l:List D} (hn:H a=none) (hf:F' a=none) (hh:H' a=some (.dK kvs)) (hk:kvs.map (·.1)=ks) (r:RepL K F' l (kvs.map (·.2))) (i:Nat) :
    StOk K F0 H0 F' H' (σ.set i (some (.ref a))) (S.set i (some (.owd ks l))) where
  ext:=s.ext.trans e
  len:=by rw [List.length_set,List.length_set]; exact s.len
  val:=fun j d' h=>by
    rcases get_set_some h with ⟨rfl,hl,q⟩ | ⟨ne,h⟩
    · cases q
    · obtain ⟨v',a',b⟩:=s.val j d' h
      exact ⟨v',by rw [List.getElem?_set_ne ne]; exact a',b.mono e.ff⟩
  own:=fun j l' h=>by
    rcases get_set_some h with ⟨rfl,hl,q⟩ | ⟨ne,h⟩
    · cases q
    · obtain ⟨b,ws,h1,h2⟩:=(s.step e).own j l' h
      exact ⟨b,ws,by rw [List.getElem?_set_ne ne]; exact h1,h2⟩
  sep:=fun j k l1 l2 b ne h1 h2 h3 h4=>by
    rcases get_set_some h1 with ⟨rfl,_,q⟩ | ⟨n1,h1⟩
    · cases q
    · rcases get_set_some h2 with ⟨rfl,_,q⟩ | ⟨n2,h2⟩
      · cases q
      · rw [List.getElem?_set_ne n1] at h3
        rw [List.getElem?_set_ne n2] at h4
        exact s.sep j k l1 l2 b ne h1 h2 h3 h4
  owd:=fun j ks' l' h=>by
    rcases get_set_some h with ⟨rfl,hl,q⟩ | ⟨ne,h⟩
    · injection q with q1 q2; subst q1 q2
      exact ⟨a,kvs,set_self (by rw [← s.len]; exact hl),s.ext.hh.free hn,hf,hh,hk,r⟩
    · obtain ⟨b,ws,h1,h2⟩:=(s.step e).owd j ks' l' h
      exact ⟨b,ws,by rw [List.getElem?_set_ne ne]; exact h1,h2⟩
  sepd:=fun j k ks1 ks2 l1 l2 b ne h1 h2 h3 h4=>by
    have old:∀ (m:Nat) (ks:List Key) (l:List D),S[m]?=some (some (Slot.owd ks l))→σ[m]?=some (some (V.ref a))→False:=fun m ks l q z=>by
      obtain ⟨c,ws,z1,_,_,z4,_⟩:=s.owd m ks l q
      rw [z] at z1
      have z2:V.ref a=V.ref c:=by simpa using z1
      injection z2 with z2
      subst z2
      rw [hn] at z4; cases z4
    rcases get_set_some h1 with ⟨rfl,hl,_⟩ | ⟨n1,h1⟩
    · rw [set_self (by rw [← s.len]; exact hl)] at h3
      rcases get_set_some h2 with ⟨rfl,_,_⟩ | ⟨n2,h2⟩
      · exact ne rfl
      · rw [List.getElem?_set_ne n2] at h4
        have z:V.ref a=V.ref b:=by simpa using h3
        injection z with z; subst z
        exact old k ks2 l2 h2 h4
    · rw [List.getElem?_set_ne n1] at h3
      rcases get_set_some h2 with ⟨rfl,hl,_⟩ | ⟨n2,h2⟩
      · rw [set_self (by rw [← s.len]; exact hl)] at h4
        have z:V.ref a=V.ref b:=by simpa using h4
        injection z with z; subst z
        exact old j ks1 l1 h1 h3
      · rw [List.getElem?_set_ne n2] at h4
        exact s.sepd j k ks1 ks2 l1 l2 b ne h1 h2 h3 h4
theorem StOk.mutd (s:StOk K F0 H0 F H σ S) {i:Nat} {ks ks':List Key} {l l':List D} {a:Addr} {kvs':List (Key × V)} (h:S[i]?=some (some (Slot.owd ks l))) (ha:σ[i]?=some (some (V.ref a))) (hk:kvs'.map (·.1)=ks') (r:RepL K F l' (kvs'.map (·.2))) :
    StOk K F0 H0 F (upd H a (.dK kvs')) σ (S.set i (some (.owd ks' l'))):=by
  obtain ⟨a',vs,h1,h2,h3,h4,h5,h6⟩:=s.owd i ks l h
  have:a'=a:=by rw [ha] at h1; simpa using h1.symm
  subst this
  refine ⟨⟨s.ext.ff,fun b u q=>?_,fun b u q=>?_,s.ext.new⟩,by rw [List.length_set]; exact s.len,fun j d q=>?_,fun j m q=>?_,fun j k l1 l2 b ne q1 q2 q3 q4=>?_,fun j km m q=>?_,fun j k k1 k2 l1 l2 b ne q1 q2 q3 q4=>?_⟩
  · rw [upd_ne (ne_of_none q h2)]; exact s.ext.hh b u q
  · rw [upd_ne (ne_of_none q h3)]; exact s.ext.fh b u q
  · rcases get_set_some q with ⟨rfl,_,e⟩ | ⟨ne,q⟩
    · cases e
    · exact s.val j d q
  · rcases get_set_some q with ⟨rfl,_,e⟩ | ⟨ne,q⟩
    · cases e
    · obtain ⟨b,ws,q1,q2,q3,q4,q5⟩:=s.own j m q
      have nb:b ≠ a':=by rintro rfl; rw [h4] at q4; cases q4
      exact ⟨b,ws,q1,q2,q3,by rw [upd_ne nb]; exact q4,q5⟩
  · rcases get_set_some q1 with ⟨rfl,_,e⟩ | ⟨_,q1⟩
    · cases e
    · rcases get_set_some q2 with ⟨rfl,_,e⟩ | ⟨_,q2⟩
      · cases e
      · exact s.sep j k l1 l2 b ne q1 q2 q3 q4
  · rcases get_set_some q with ⟨rfl,_,e⟩ | ⟨ne,q⟩
    · injection e with e1 e2; subst e1 e2
      exact ⟨a',kvs',h1,h2,h3,upd_same,hk,r⟩
    · obtain ⟨b,ws,q1,q2,q3,q4,q5⟩:=s.owd j km m q
      have nb:b ≠ a':=by rintro rfl; exact s.sepd i j ks km l m b ne h q h1 q1
      exact ⟨b,ws,q1,q2,q3,by rw [upd_ne nb]; exact q4,q5⟩
  · have back:∀ (m:Nat) (km:List Key) (l1:List D),(S.set i (some (Slot.owd ks' l')))[m]?=some (some (Slot.owd km l1))→∃ k2 l2,S[m]?=some (some (Slot.owd k2 l2)):=fun m km l1 z=>by
      rcases get_set_some z with ⟨rfl,_,_⟩ | ⟨_,z⟩
      · exact ⟨ks,l,h⟩
      · exact ⟨km,l1,z⟩
    obtain ⟨k3,l3,q1⟩:=back j k1 l1 q1
    obtain ⟨k4,l4,q2⟩:=back k k2 l2 q2
    exact s.sepd j k k3 k4 l3 l4 b ne q1 q2 q3 q4
theorem StOk.mut (s:StOk K F0 H0 F H σ S) {i:Nat} {l l':List D} {a:Addr} {vs':List V} (h:S[i]?=some (some (Slot.own l))) (ha:σ[i]?=some (some (V.ref a))) (r:RepL K F l' vs') :
    StOk K F0 H0 F (upd H a (.lst vs')) σ (S.set i (some (.own l'))):=by
  obtain ⟨a',vs,h1,h2,h3,h4,h5⟩:=s.own i l h
  have:a'=a:=by rw [ha] at h1; simpa using h1.symm
  subst this
  refine ⟨⟨s.ext.ff,fun b u q=>?_,fun b u q=>?_,s.ext.new⟩,by rw [List.length_set]; exact s.len,fun j d q=>?_,fun j m q=>?_,fun j k l1 l2 b ne q1 q2 q3 q4=>?_,fun j km m q=>?_,fun j k k1 k2 l1 l2 b ne q1 q2 q3 q4=>?_⟩
  · rw [upd_ne (ne_of_none q h2)]; exact s.ext.hh b u q
  · rw [upd_ne (ne_of_none q h3)]; exact s.ext.fh b u q
  · rcases get_set_some q with ⟨rfl,_,e⟩ | ⟨ne,q⟩
    · cases e
    · exact s.val j d q
  · rcases get_set_some q with ⟨rfl,_,e⟩ | ⟨ne,q⟩
    · injection e with e; subst e
      exact ⟨a',vs',h1,h2,h3,upd_same,r⟩
    · obtain ⟨b,ws,q1,q2,q3,q4,q5⟩:=s.own j m q
      have nb:b ≠ a':=by rintro rfl; exact s.sep i j l m b ne h q h1 q1
      exact ⟨b,ws,q1,q2,q3,by rw [upd_ne nb]; exact q4,q5⟩
  · have back:∀ (m:Nat) (l1:List D),(S.set i (some (Slot.own l')))[m]?=some (some (Slot.own l1))→∃ l2,S[m]?=some (some (Slot.own l2)):=fun m l1 z=>by
      rcases get_set_some z with ⟨rfl,_,_⟩ | ⟨_,z⟩
      · exact ⟨l,h⟩
      · exact ⟨l1,z⟩
    obtain ⟨l3,q1⟩:=back j l1 q1
    obtain ⟨l4,q2⟩:=back k l2 q2
    exact s.sep j k l3 l4 b ne q1 q2 q3 q4
  · rcases get_set_some q with ⟨rfl,_,e⟩ | ⟨ne,q⟩
    · cases e
    · obtain ⟨b,ws,q1,q2,q3,q4,q5⟩:=s.owd j km m q
      have nb:b ≠ a':=by rintro rfl; rw [h4] at q4; cases q4
      exact ⟨b,ws,q1,q2,q3,by rw [upd_ne nb]; exact q4,q5⟩
  · rcases get_set_some q1 with ⟨rfl,_,e⟩ | ⟨_,q1⟩
    · cases e
    · rcases get_set_some q2 with ⟨rfl,_,e⟩ | ⟨_,q2⟩
      · cases e
      · exact s.sepd j k k1 k2 l1 l2 b ne q1 q2 q3 q4
end
section
variable (K:PySem.W.Frag) (F0 H0:Hp) (xq:Addr→Hp→Prop)
noncomputable def RR (F H:Hp):VR→V→Prop
  | .ok d,v=>Rep K F d v
  | .bor l,v=>∃ a vs,v=.ref a∧H0 a=none∧F a=none∧H a=some (.lst vs)∧RepL K F l vs
  | .bod ks l,v=>∃ a kvs,v=.ref a∧H0 a=none∧F a=none∧H a=some (.dK kvs)∧kvs.map (·.1)=ks∧RepL K F l (kvs.map (·.2))
noncomputable def outE (F H:Hp) (Q:VK):M VR→Prop
  | none=>False
  | some (.error c)=>∀ H',Same H H'→xq c H'
  | some (.ok r)=>∀ v F' H',Ext F H F' H'→RR K H0 F' H' r v→Q v H'
noncomputable def tE (f:DS→M VR):TE:=fun σ H Q=>∃ F S,StOk K F0 H0 F H σ S∧outE K H0 xq F H Q (f S)
noncomputable def outF (F H:Hp) (Q:VK):M (List D)→Prop
  | none=>False
  | some (.error c)=>∀ H',Same H H'→xq c H'
  | some (.ok l)=>∀ a vs F' H',Ext F H F' H'→H a=none→F' a=none→H' a=some (.lst vs)→RepL K F' l vs→Q (.ref a) H'
noncomputable def tF (f:DS→M (List D)):TE:=fun σ H Q=>∃ F S,StOk K F0 H0 F H σ S∧outF K xq F H Q (f S)
noncomputable def outT (F H:Hp) (Q:Bool→Hp→Prop):M Bool→Prop
  | none=>False
  | some (.error c)=>∀ H',Same H H'→xq c H'
  | some (.ok b)=>∀ F' H',Ext F H F' H'→Q b H'
noncomputable def tT (f:DS→M Bool):TT:=fun σ H Q=>∃ F S,StOk K F0 H0 F H σ S∧outT xq F H Q (f S)
noncomputable def RRs (F H:Hp):List VR→List V→Prop
  | [],vs=>vs=[]
  | r :: l,vs=>∃ v t,vs=v :: t∧RR K H0 F H r v∧RRs F H l t
noncomputable def outA (F H:Hp) (Q:List V→Hp→Prop):M (List VR)→Prop
  | none=>False
  | some (.error c)=>∀ H',Same H H'→xq c H'
  | some (.ok rs)=>∀ vs F' H',Ext F H F' H'→RRs K H0 F' H' rs vs→Q vs H'
noncomputable def tA (f:DS→M (List VR)):TA:=fun σ H Q=>∃ F S,StOk K F0 H0 F H σ S∧outA K H0 xq F H Q (f S)
inductive Fl where
  | next (S:DS) | ret (d:D) | brk (S:DS) | cont (S:DS) | ex (c:Addr)
noncomputable def outS (Dn:Ends):Option Fl→Prop
  | none=>False
  | some (.next S)=>∀ σ F H,StOk K F0 H0 F H σ S→Dn.nx σ H
  | some (.brk S)=>∀ σ F H,StOk K F0 H0 F H σ S→Dn.bk σ H
  | some (.cont S)=>∀ σ F H,StOk K F0 H0 F H σ S→Dn.ct σ H
  | some (.ret d)=>∀ v F H,Ext F0 H0 F H→Rep K F d v→Dn.rt v H
  | some (.ex c)=>∀ H,Same H0 H→xq c H
noncomputable def tS (f:DS→Option Fl):TS:=fun Dn σ H=>∃ F S,StOk K F0 H0 F H σ S∧outS K F0 H0 xq Dn (f S)
end
structure DE (X:Cx) (F0 H0:Hp) (xq:Addr→Hp→Prop) (e:Expr) (f:DS→M VR):Prop where
  mk ::
  h:PE X e (tE X.K F0 H0 xq f)
structure DF (X:Cx) (F0 H0:Hp) (xq:Addr→Hp→Prop) (e:Expr) (f:DS→M (List D)):Prop where
  mk ::
  h:PE X e (tF X.K F0 H0 xq f)
structure DT (X:Cx) (F0 H0:Hp) (xq:Addr→Hp→Prop) (e:Expr) (f:DS→M Bool):Prop where
  mk ::
  h:PT X e (tT X.K F0 H0 xq f)
structure DW (X:Cx) (F0 H0:Hp) (xq:Addr→Hp→Prop) (e:Expr) (f:DS→M Bool):Prop where
  mk ::
  h:PW X e (tT X.K F0 H0 xq f)
structure DA (X:Cx) (F0 H0:Hp) (xq:Addr→Hp→Prop) (es:List Expr) (f:DS→M (List VR)):Prop where
  mk ::
  h:PA X es (tA X.K F0 H0 xq f)
structure DS1 (X:Cx) (F0 H0:Hp) (xq:Addr→Hp→Prop) (st:Stmt) (f:DS→Option Fl):Prop where
  mk ::
  h:PS X st (tS X.K F0 H0 xq f)
structure DSs (X:Cx) (F0 H0:Hp) (xq:Addr→Hp→Prop) (st:List Stmt) (f:DS→Option Fl):Prop where
  mk ::
  h:PSs X st (tS X.K F0 H0 xq f)
section
variable {K:PySem.W.Frag} {F0 H0 F H F' H':Hp} {xq:Addr→Hp→Prop} {Q:VK}
theorem RR.step {r:VR} {v:V} (e:Ext F H F' H') (h:RR K H0 F H r v):RR K H0 F' H' r v:=by
  cases r with
  | ok d=>exact Rep.mono e.ff h
  | bor l=>
    obtain ⟨a,vs,h1,h2,h3,h4,h5⟩:=h
    exact ⟨a,vs,h1,h2,e.new a (.lst vs) h4 h3,e.hh _ _ h4,h5.mono e.ff⟩
  | bod ks l=>
    obtain ⟨a,vs,h1,h2,h3,h4,h5,h6⟩:=h
    exact ⟨a,vs,h1,h2,e.new a (.dK vs) h4 h3,e.hh _ _ h4,h5,h6.mono e.ff⟩
theorem outE.step {x:M VR} (e:Ext F H F' H') (h:outE K H0 xq F H Q x):outE K H0 xq F' H' Q x:=by
  match x,h with
  | some (.error c),h=>exact fun H2 s=>h H2 (e.hh.trans s)
  | some (.ok r),h=>exact fun v F2 H2 e2 q=>h v F2 H2 (e.trans e2) q
theorem outF.step {x:M (List D)} (e:Ext F H F' H') (h:outF K xq F H Q x):outF K xq F' H' Q x:=by
  match x,h with
  | some (.error c),h=>exact fun H2 s=>h H2 (e.hh.trans s)
  | some (.ok l),h=>exact fun a vs F2 H2 e2 q1 q2 q3 q4=>h a vs F2 H2 (e.trans e2) (e.hh.free q1) q2 q3 q4
theorem outT.step {x:M Bool} {Q:Bool→Hp→Prop} (e:Ext F H F' H') (h:outT xq F H Q x):outT xq F' H' Q x:=by
  match x,h with
  | some (.error c),h=>exact fun H2 s=>h H2 (e.hh.trans s)
  | some (.ok b),h=>exact fun F2 H2 e2=>h F2 H2 (e.trans e2)
theorem outA.step {x:M (List VR)} {Q:List V→Hp→Prop} (e:Ext F H F' H') (h:outA K H0 xq F H Q x):outA K H0 xq F' H' Q x:=by
  match x,h with
  | some (.error c),h=>exact fun H2 s=>h H2 (e.hh.trans s)
  | some (.ok r),h=>exact fun v F2 H2 e2 q=>h v F2 H2 (e.trans e2) q
theorem outE.bind {x:M VR} {Q1:VK} {β:Type} {k:VR→M β} {G:Hp→Hp→M β→Prop} (gs:∀ {F H F' H':Hp} {z:M β},Ext F H F' H'→G F H z→G F' H' z) (gn:∀ F H,G F H none→False) (ge:∀ F H c,G F H (some (.error c))→∀ H',Same H H'→xq c H')
    (h:G F H (mb x k)) (hq:∀ r v F1 H1,Ext F H F1 H1→RR K H0 F1 H1 r v→G F1 H1 (k r)→Q1 v H1):outE K H0 xq F H Q1 x:=by
  match x,h with
  | none,h=>exact gn _ _ h
  | some (.error c),h=>exact ge _ _ c h
  | some (.ok r),h=>exact fun v F1 H1 e q=>hq r v F1 H1 e q (gs e h)
theorem outE.mb {x:M VR} {k:VR→M VR} {Q1:VK} (h:outE K H0 xq F H Q (mb x k)) (hq:∀ r v F1 H1,Ext F H F1 H1→RR K H0 F1 H1 r v→outE K H0 xq F1 H1 Q (k r)→Q1 v H1):outE K H0 xq F H Q1 x:=
  outE.bind (G:=fun F H z=>outE K H0 xq F H Q z) (fun e h=>h.step e) (fun _ _ h=>h) (fun _ _ _ h=>h) h hq
theorem outE.mbT {x:M VR} {k:VR→M Bool} {Q1:VK} {Q:Bool→Hp→Prop} (h:outT xq F H Q (PF.mb x k)) (hq:∀ r v F1 H1,Ext F H F1 H1→RR K H0 F1 H1 r v→outT xq F1 H1 Q (k r)→Q1 v H1):outE K H0 xq F H Q1 x:=
  outE.bind (G:=fun F H z=>outT xq F H Q z) (fun e h=>h.step e) (fun _ _ h=>h) (fun _ _ _ h=>h) h hq
theorem outE.mbA {x:M VR} {k:VR→M (List VR)} {Q1:VK} {Q:List V→Hp→Prop} (h:outA K H0 xq F H Q (PF.mb x k)) (hq:∀ r v F1 H1,Ext F H F1 H1→RR K H0 F1 H1 r v→outA K H0 xq F1 H1 Q (k r)→Q1 v H1):outE K H0 xq F H Q1 x:=
  outE.bind (G:=fun F H z=>outA K H0 xq F H Q z) (fun e h=>h.step e) (fun _ _ h=>h) (fun _ _ _ h=>h) h hq
theorem outE.mbF {x:M VR} {k:VR→M (List D)} {Q1:VK} (h:outF K xq F H Q (PF.mb x k)) (hq:∀ r v F1 H1,Ext F H F1 H1→RR K H0 F1 H1 r v→outF K xq F1 H1 Q (k r)→Q1 v H1):outE K H0 xq F H Q1 x:=
  outE.bind (G:=fun F H z=>outF K xq F H Q z) (fun e h=>h.step e) (fun _ _ h=>h) (fun _ _ _ h=>h) h hq
theorem outA.bind {x:M (List VR)} {Q1:List V→Hp→Prop} {β:Type} {k:List VR→M β} {G:Hp→Hp→M β→Prop} (gs:∀ {F H F' H':Hp} {z:M β},Ext F H F' H'→G F H z→G F' H' z) (gn:∀ F H,G F H none→False) (ge:∀ F H c,G F H (some (.error c))→∀ H',Same H H'→xq c H')
    (h:G F H (mb x k)) (hq:∀ r v F1 H1,Ext F H F1 H1→RRs K H0 F1 H1 r v→G F1 H1 (k r)→Q1 v H1):outA K H0 xq F H Q1 x:=by
  match x,h with
  | none,h=>exact gn _ _ h
  | some (.error c),h=>exact ge _ _ c h
  | some (.ok r),h=>exact fun v F1 H1 e q=>hq r v F1 H1 e q (gs e h)
theorem outT.bind {x:M Bool} {Q1:Bool→Hp→Prop} {β:Type} {k:Bool→M β} {G:Hp→Hp→M β→Prop} (gs:∀ {F H F' H':Hp} {z:M β},Ext F H F' H'→G F H z→G F' H' z) (gn:∀ F H,G F H none→False) (ge:∀ F H c,G F H (some (.error c))→∀ H',Same H H'→xq c H')
    (h:G F H (mb x k)) (hq:∀ b F1 H1,Ext F H F1 H1→G F1 H1 (k b)→Q1 b H1):outT xq F H Q1 x:=by
  match x,h with
  | none,h=>exact gn _ _ h
  | some (.error c),h=>exact ge _ _ c h
  | some (.ok b),h=>exact fun F1 H1 e=>hq b F1 H1 e (gs e h)
noncomputable def RV (K:PySem.W.Frag) (F H:Hp):D→V→Prop
  | .lst l,v=>∃ a vs,v=.ref a∧H a=some (.lst vs)∧RepL K F l vs
  | .dic ks l,v=>∃ a kvs,v=.ref a∧H a=some (.dK kvs)∧kvs.map (·.1)=ks∧RepL K F l (kvs.map (·.2))
  | d,v=>Rep K F d v
theorem RR.rv {r:VR} {v:V} (fh:Same F H) (h:RR K H0 F H r v):RV K F H (toD r) v:=by
  cases r with
  | bor l=>
    obtain ⟨a,vs,h1,h2,h3,h4,h5⟩:=h
    exact ⟨a,vs,h1,h4,h5⟩
  | bod ks l=>
    obtain ⟨a,vs,h1,h2,h3,h4,h5,h6⟩:=h
    exact ⟨a,vs,h1,h4,h5,h6⟩
  | ok d=>
    cases d with
    | lst l=>
      obtain ⟨a,vs,h1,h2,h3⟩:=h
      exact ⟨a,vs,h1,fh _ _ h2,h3⟩
    | dic ks l=>
      obtain ⟨a,vs,h1,h2,h3,h4⟩:=h
      exact ⟨a,vs,h1,fh _ _ h2,h3,h4⟩
    | _=>exact h
theorem RR.rep {r:VR} {v:V} (fh:Same F H) (h:RR K H0 F H r v):Rep K H (toD r) v:=by
  cases r with
  | bor l=>
    obtain ⟨a,vs,h1,h2,h3,h4,h5⟩:=h
    exact ⟨a,vs,h1,h4,h5.mono fh⟩
  | bod ks l=>
    obtain ⟨a,vs,h1,h2,h3,h4,h5,h6⟩:=h
    exact ⟨a,vs,h1,h4,h5,h6.mono fh⟩
  | ok d=>exact Rep.mono fh h
end
end PF
set_option Elab.async false
set_option linter.all false
set_option maxRecDepth 100000
set_option maxHeartbeats 4000000
namespace PF
open PySem PySem.Spec L2
open PyProof.Rows hiding St
section
variable {X:Cx} {F0 H0:Hp} {xq:Addr→Hp→Prop} {pos:Pos}
noncomputable def dVar (i:Nat):DS→M VR:=fun S=>match S[i]? with
  | some (some (.val d))=>some (.ok (.ok d))
  | some (some (.own l))=>some (.ok (.bor l))
  | some (some (.owd ks l))=>some (.ok (.bod ks l))
  | _=>none
theorem tVar_of {K:PySem.W.Frag} {i:Nat} {σ:St} {H:Hp} {Q:VK} (h:tE K F0 H0 xq (dVar i) σ H Q):tVar i σ H Q:=by
  obtain ⟨F,S,st,o⟩:=h
  unfold dVar at o
  cases q:S[i]? with
  | none=>rw [q] at o; exact False.elim o
  | some z=>
    cases z with
    | none=>rw [q] at o; exact False.elim o
    | some sl=>
      cases sl with
      | val d=>
        rw [q] at o
        obtain ⟨v,e,r⟩:=st.val i d q
        exact ⟨v,e,o v F H (Ext.refl st.ext.fh) r⟩
      | own l=>
        rw [q] at o
        obtain ⟨a,vs,h1,h2,h3,h4,h5⟩:=st.own i l q
        exact ⟨_,h1,o _ F H (Ext.refl st.ext.fh) ⟨a,vs,rfl,h2,h3,h4,h5⟩⟩
      | owd ks l=>
        rw [q] at o
        obtain ⟨a,vs,h1,h2,h3,h4,h5,h6⟩:=st.owd i ks l q
        exact ⟨_,h1,o _ F H (Ext.refl st.ext.fh) ⟨a,vs,rfl,h2,h3,h4,h5,h6⟩⟩
theorem de_var (i:Nat) {x:Str} (hN:X.N[i]?=some x:=by rfl) (hv:Vis X.env.scope x:=by first | exact Or.inl rfl | exact Or.inr (Or.inl rfl) | exact Or.inr (Or.inr rfl)) (hd:(x == ("__debug__" : Str))=false:=by decide)
    (hcd:(x == ("__classdict__" : Str))=false:=by decide):DE X F0 H0 xq (.Name x pos) (dVar i):=
  .mk fun pins s σ H Q I h=>pe_var hN hv hd hcd pins s σ H Q I (tVar_of h)
noncomputable def dC (d:D):DS→M VR:=fun _=>some (.ok (.ok d))
theorem de_const {e:Expr} {v:V} {d:D} (h:PE X e (tC v)) (r:∀ F,Rep X.K F d v):DE X F0 H0 xq e (dC d):=
  .mk fun pins s σ H Q I ⟨F,S,st,o⟩=>h pins s σ H Q I (o v F H (Ext.refl st.ext.fh) (r F))
theorem de_int {i j}:DE X F0 H0 xq (.Constant (.int i) j pos) (dC (.int i)):=de_const pe_int fun _=>rfl
theorem de_bl {b j}:DE X F0 H0 xq (.Constant (.bool b) j pos) (dC (.bl b)):=de_const pe_bl fun _=>rfl
theorem de_non {j}:DE X F0 H0 xq (.Constant .none j pos) (dC .non):=de_const pe_non fun _=>rfl
theorem de_str {x j}:DE X F0 H0 xq (.Constant (.str x) j pos) (dC (.str x)):=de_const pe_str fun _=>rfl
theorem de_globI {x:Str} {i:Int} (hg:Gl X x) (hm:∃ t,X.mg x=some (.int i t)) (hd:(x == ("__debug__" : Str))=false:=by decide):DE X F0 H0 xq (.Name x pos) (dC (.int i)):=
  let ⟨t,e⟩:=hm
  de_const (v:=.int i) (pe_glob hg e ⟨t,rfl⟩ hd) fun _=>rfl
theorem de_globS {x:Str} {i:Str} (hg:Gl X x) (hm:∃ t,X.mg x=some (.str i t)) (hd:(x == ("__debug__" : Str))=false:=by decide):DE X F0 H0 xq (.Name x pos) (dC (.str i)):=
  let ⟨t,e⟩:=hm
  de_const (v:=.str i) (pe_glob hg e ⟨t,rfl⟩ hd) fun _=>rfl
noncomputable def dOf (f:DS→M (List D)):DS→M VR:=fun S=>mb (f S) fun l=>some (.ok (.ok (.lst l)))
theorem tF_of {K:PySem.W.Frag} {f:DS→M (List D)} {σ:St} {H:Hp} {Q:VK} (h:tE K F0 H0 xq (dOf f) σ H Q):tF K F0 H0 xq f σ H Q:=by
  obtain ⟨F,S,st,o⟩:=h
  refine ⟨F,S,st,?_⟩
  unfold dOf at o
  cases q:f S with
  | none=>rw [q] at o; exact False.elim o
  | some z=>
    cases z with
    | error c=>rw [q] at o; exact o
    | ok l=>
      rw [q] at o
      intro a vs F' H' e hn hf hh r
      refine o (.ref a) (upd F' a (.lst vs)) H' ⟨e.ff.trans (same_upd hf),e.hh,fun b u z=>?_,fun b xs hb fb=>?_⟩ ⟨a,vs,rfl,upd_same,r.mono (same_upd hf)⟩
      · by_cases eb:b=a
        · subst eb; rw [upd_same] at z; rw [hh]; exact z
        · rw [upd_ne eb] at z; exact e.fh b u z
      · rw [upd_ne (ne_of_none hb hn)]; exact e.new b xs hb fb
theorem de_of {e:Expr} {f:DS→M (List D)} (h:DF X F0 H0 xq e f):DE X F0 H0 xq e (dOf f):=.mk fun pins s σ H Q I q=>h.h pins s σ H Q I (tF_of q)
end
noncomputable def vr (d:Option D):M VR:=match d with
  | some d=>some (.ok (.ok d))
  | none=>none
noncomputable def dBin (g:D→D→Option D) (fa fb:DS→M VR):DS→M VR:=fun S=>mb (fa S) fun r1=>mb (fb S) fun r2=>vr (g (toD r1) (toD r2))
noncomputable def OpD (K:PySem.W.Frag) (r:R2) (g:D→D→Option D):Prop:=∀ (F H:Hp) (d1 d2 d:D) (v1 v2:V) (Q:VK),Same F H→RV K F H d1 v1→RV K F H d2 v2→g d1 d2=some d→(∀ v F' H',Ext F H F' H'→Rep K F' d v→Q v H')→r v1 v2 H Q
section
variable {X:Cx} {F0 H0:Hp} {xq:Addr→Hp→Prop} {pos:Pos} {a b c:Expr} {fa fb fc:DS→M VR}
theorem tOp_of {K:PySem.W.Frag} {r:R2} {g:D→D→Option D} {σ:St} {H:Hp} {Q:VK} (hg:OpD K r g) (h:tE K F0 H0 xq (dBin g fa fb) σ H Q):tOp r (tE K F0 H0 xq fa) (tE K F0 H0 xq fb) σ H Q:=by
  obtain ⟨F,S,st,o⟩:=h
  refine ⟨F,S,st,outE.mb o fun r1 v1 F1 H1 e1 q1 o1=>?_⟩
  refine ⟨F1,S,st.step e1,outE.mb o1 fun r2 v2 F2 H2 e2 q2 o2=>?_⟩
  cases z:g (toD r1) (toD r2) with
  | none=>rw [z] at o2; exact False.elim o2
  | some d=>
    rw [z] at o2
    exact hg F2 H2 _ _ d v1 v2 Q e2.fh (RR.rv e2.fh (RR.step e2 q1)) (RR.rv e2.fh q2) z fun v F' H' e r=>o2 v F' H' e r
theorem de_bin {op:Operator} {r:R2} {g:D→D→Option D} (ho:OpR X (binaryOp op) r) (hg:OpD X.K r g) (ha:DE X F0 H0 xq a fa) (hb:DE X F0 H0 xq b fb):DE X F0 H0 xq (.BinOp a op b pos) (dBin g fa fb):=
  .mk fun pins s σ H Q I h=>pe_op ho ha.h hb.h pins s σ H Q I (tOp_of hg h)
theorem de_cmp {op:CmpOp} {r:R2} {g:D→D→Option D} (ho:OpR X (compareOp op) r) (hg:OpD X.K r g) (ha:DE X F0 H0 xq a fa) (hb:DE X F0 H0 xq b fb) (hm:behindInMarks op b=false):DE X F0 H0 xq (.Compare a [op] [b] pos) (dBin g fa fb):=
  .mk fun pins s σ H Q I h=>pe_cmpR ho ha.h hb.h hm pins s σ H Q I (tOp_of hg h)
noncomputable def dtB (f:DS→M VR):DS→M Bool:=fun S=>mb (f S) fun r=>match r with
  | .ok (.bl b)=>some (.ok b)
  | _=>none
theorem tTest_of {K:PySem.W.Frag} {f:DS→M VR} {σ:St} {H:Hp} {Q:Bool→Hp→Prop} (h:tT K F0 H0 xq (dtB f) σ H Q):tE K F0 H0 xq f σ H (fun x H'=>∃ k,x=.bl k∧Q k H'):=by
  obtain ⟨F,S,st,o⟩:=h
  refine ⟨F,S,st,outE.mbT (K:=K) (H0:=H0) o fun r v F1 H1 e q o1=>?_⟩
  cases r with
  | bor l=>exact False.elim o1
  | bod ks l=>exact False.elim o1
  | ok d=>
    cases d with
    | bl b=>exact ⟨b,q,o1 F1 H1 (Ext.refl e.fh)⟩
    | _=>exact False.elim o1
theorem dt_cmp {op:CmpOp} {r:R2} {g:D→D→Option D} (ho:OpR X (compareOp op) r) (hg:OpD X.K r g) (ha:DE X F0 H0 xq a fa) (hb:DE X F0 H0 xq b fb) (hm:behindInMarks op b=false):DT X F0 H0 xq (.Compare a [op] [b] pos) (dtB (dBin g fa fb)):=
  .mk fun pins s σ H Q I h=>pt_cmpR ho ha.h hb.h hm pins s σ H Q I (tOp_of hg (tTest_of h))
theorem dt_val {e:Expr} {f:DS→M VR} (h:DE X F0 H0 xq e f) (he:∀ whole,isTrue e X.env whole=(do let v ← whole; standAt e.pos; holding [v] (truthy v)):=by intro _; rfl):DT X F0 H0 xq e (dtB f):=
  .mk fun pins s σ H Q I q=>pt_val h.h he pins s σ H Q I (tTest_of q)
noncomputable def dChain (g g':D→D→Option D) (fa fb fc:DS→M VR):DS→M VR:=fun S=>mb (fa S) fun r1=>mb (fb S) fun r2=>match g (toD r1) (toD r2) with
  | some (.bl true)=>mb (fc S) fun r3=>vr (g' (toD r2) (toD r3))
  | some (.bl false)=>some (.ok (.ok (.bl false)))
  | _=>none
theorem tChain_of {K:PySem.W.Frag} {r r':R2} {g g':D→D→Option D} {σ:St} {H:Hp} {Q:VK} (hg:OpD K r g) (hg':OpD K r' g') (h:tE K F0 H0 xq (dChain g g' fa fb fc) σ H Q) :
    tChain r r' (tE K F0 H0 xq fa) (tE K F0 H0 xq fb) (tE K F0 H0 xq fc) σ H Q:=by
  obtain ⟨F,S,st,o⟩:=h
  refine ⟨F,S,st,outE.mb o fun r1 v1 F1 H1 e1 q1 o1=>?_⟩
  refine ⟨F1,S,st.step e1,outE.mb o1 fun r2 v2 F2 H2 e2 q2 o2=>?_⟩
  have st2:=(st.step e1).step e2
  match z:g (toD r1) (toD r2),o2 with
  | some (.bl true),o2=>
    refine hg F2 H2 _ _ _ v1 v2 _ e2.fh (RR.rv e2.fh (RR.step e2 q1)) (RR.rv e2.fh q2) z fun v F3 H3 e3 r3=>⟨true,r3,?_⟩
    rw [if_pos rfl]
    refine ⟨F3,S,st2.step e3,outE.mb (outE.step e3 o2) fun r4 v4 F4 H4 e4 q4 o4=>?_⟩
    cases y:g' (toD r2) (toD r4) with
    | none=>rw [y] at o4; exact False.elim o4
    | some d=>
      rw [y] at o4
      exact hg' F4 H4 _ _ d v2 v4 Q e4.fh (RR.rv e4.fh (RR.step e4 (RR.step e3 q2))) (RR.rv e4.fh q4) y fun v F' H' e r=>o4 v F' H' e r
  | some (.bl false),o2=>
    refine hg F2 H2 _ _ _ v1 v2 _ e2.fh (RR.rv e2.fh (RR.step e2 q1)) (RR.rv e2.fh q2) z fun v F3 H3 e3 r3=>⟨false,r3,?_⟩
    rw [if_neg Bool.false_ne_true]
    exact o2 (.bl false) F3 H3 e3 rfl
theorem de_chain {op op':CmpOp} {r r':R2} {g g':D→D→Option D} (ho:OpR X (compareOp op) r) (ho':OpR X (compareOp op') r') (hg:OpD X.K r g) (hg':OpD X.K r' g') (ha:DE X F0 H0 xq a fa) (hb:DE X F0 H0 xq b fb) (hc:DE X F0 H0 xq c fc)
    (hm:lastMarks [op,op'] [b,c]=false:=by with_unfolding_all rfl):DE X F0 H0 xq (.Compare a [op,op'] [b,c] pos) (dChain g g' fa fb fc):=
  .mk fun pins s σ H Q I h=>pe_chain ho ho' ha.h hb.h hc.h hm pins s σ H Q I (tChain_of hg hg' h)
end
noncomputable def UnD (K:PySem.W.Frag) (r:V→Hp→VK→Prop) (g:D→Option D):Prop:=∀ (F H:Hp) (d1 d:D) (v1:V) (Q:VK),Same F H→RV K F H d1 v1→g d1=some d→(∀ v F' H',Ext F H F' H'→Rep K F' d v→Q v H')→r v1 H Q
noncomputable def dUn (g:D→Option D) (fa:DS→M VR):DS→M VR:=fun S=>mb (fa S) fun r1=>vr (g (toD r1))
section
variable {X:Cx} {F0 H0:Hp} {xq:Addr→Hp→Prop} {pos:Pos} {a b c:Expr} {fa fb fc:DS→M VR}
theorem tUn_of {K:PySem.W.Frag} {r:V→Hp→VK→Prop} {g:D→Option D} {σ:St} {H:Hp} {Q:VK} (hg:UnD K r g) (h:tE K F0 H0 xq (dUn g fa) σ H Q):tE K F0 H0 xq fa σ H (fun x H1=>r x H1 Q):=by
  obtain ⟨F,S,st,o⟩:=h
  refine ⟨F,S,st,outE.mb o fun r1 v1 F1 H1 e1 q1 o1=>?_⟩
  cases z:g (toD r1) with
  | none=>rw [z] at o1; exact False.elim o1
  | some d=>
    rw [z] at o1
    exact hg F1 H1 _ d v1 Q e1.fh (RR.rv e1.fh q1) z fun v F' H' e r=>o1 v F' H' e r
theorem de_un {op:UnaryOp} {r:V→Hp→VK→Prop} {g:D→Option D} (ho:UnR X (unaryOp op) r) (hg:UnD X.K r g) (ha:DE X F0 H0 xq a fa):DE X F0 H0 xq (.UnaryOp op a pos) (dUn g fa):=
  .mk fun pins s σ H Q I h=>pe_un ho ha.h pins s σ H Q I (tUn_of hg h)
theorem tCB_of {K:PySem.W.Frag} {r:List V→Hp→VK→Prop} {g:D→Option D} {σ:St} {H:Hp} {Q:VK} (hg:UnD K (fun x H Q=>r [x] H Q) g) (h:tE K F0 H0 xq (dUn g fa) σ H Q):tCB r (tCons (tE K F0 H0 xq fa) tNil) σ H Q:=tUn_of hg h
theorem de_b1 {id:String} {x:Str} {p:Pos} {r:List V→Hp→VK→Prop} {g:D→Option D} (hc:CallR X (.builtin id) r) (hg:UnD X.K (fun x H Q=>r [x] H Q) g) (hgl:Gl X x) (hm:X.mg x=none) (hv:bootBuiltins x=some (.builtin id)) (ha:DE X F0 H0 xq a fa)
    (hn:x ≠ "__name__" := by decide) (hdb:(x == ("__debug__" : Str))=false:=by decide) (he:starEach [a] X.env=(false,eval a X.env) :: starEach [] X.env:=by rfl):DE X F0 H0 xq (.Call (.Name x p) [a] [] pos) (dUn g fa):=
  .mk fun pins s σ H Q I h=>pe_callB hc hgl hm hv (pa_cons ha.h pa_nil he) hn hdb he rfl pins s σ H Q I (tCB_of hg h)
theorem de_t1 {T:String} {x:Str} {p:Pos} {r:List V→Hp→VK→Prop} {g:D→Option D} (hc:CallR X (.type T) r) (hg:UnD X.K (fun x H Q=>r [x] H Q) g) (hgl:Gl X x) (hm:X.mg x=none) (hv:bootBuiltins x=some (.type T)) (ha:DE X F0 H0 xq a fa)
    (hn:x ≠ "__name__" := by decide) (hdb:(x == ("__debug__" : Str))=false:=by decide) (he:starEach [a] X.env=(false,eval a X.env) :: starEach [] X.env:=by rfl):DE X F0 H0 xq (.Call (.Name x p) [a] [] pos) (dUn g fa):=
  .mk fun pins s σ H Q I h=>pe_callTy hc hgl hm hv (pa_cons ha.h pa_nil he) hn hdb he rfl pins s σ H Q I (tCB_of hg h)
noncomputable def dNot (f:DS→M Bool):DS→M Bool:=fun S=>mb (f S) fun b=>some (.ok (!b))
theorem dt_not {f:DS→M Bool} (h:DT X F0 H0 xq a f):DT X F0 H0 xq (.UnaryOp .Not a pos) (dNot f):=.mk fun pins s σ H Q I q=>by
  refine pt_not h.h pins s σ H Q I ?_
  obtain ⟨F,S,st,o⟩:=q
  exact ⟨F,S,st,outT.bind (G:=fun F H z=>outT xq F H Q z) (fun e h=>h.step e) (fun _ _ h=>h) (fun _ _ _ h=>h) o fun b F1 H1 e o1=>o1 F1 H1 (Ext.refl e.fh)⟩
noncomputable def dNotV (f:DS→M VR):DS→M VR:=fun S=>mb (f S) fun r=>match r with
  | .ok (.bl b)=>some (.ok (.ok (.bl (!b))))
  | _=>none
theorem de_not {f:DS→M VR} (h:DE X F0 H0 xq a f):DE X F0 H0 xq (.UnaryOp .Not a pos) (dNotV f):=.mk fun pins s σ H Q I q=>by
  refine pe_not h.h pins s σ H Q I ?_
  obtain ⟨F,S,st,o⟩:=q
  refine ⟨F,S,st,outE.mb o fun r v F1 H1 e q o1=>?_⟩
  cases r with
  | bor l=>exact False.elim o1
  | bod ks l=>exact False.elim o1
  | ok d=>
    cases d with
    | bl b=>exact ⟨b,q,o1 (.bl (!b)) F1 H1 (Ext.refl e.fh) rfl⟩
    | _=>exact False.elim o1
noncomputable def dAnd (f g:DS→M Bool):DS→M Bool:=fun S=>mb (f S) fun b=>if b=true then g S else some (.ok false)
noncomputable def dOr (f g:DS→M Bool):DS→M Bool:=fun S=>mb (f S) fun b=>if b=true then some (.ok true) else g S
variable {rest:List Expr}
theorem dw_and1 {f:DS→M Bool} (h:DT X F0 H0 xq a f):DW X F0 H0 xq (.BoolOp .And [a] pos) f:=⟨pw_and1 h.h⟩
theorem dw_or1 {f:DS→M Bool} (h:DT X F0 H0 xq a f):DW X F0 H0 xq (.BoolOp .Or [a] pos) f:=⟨pw_or1 h.h⟩
theorem dw_and {f g:DS→M Bool} (h:DT X F0 H0 xq a f) (h2:DW X F0 H0 xq (.BoolOp .And (b :: rest) pos) g):DW X F0 H0 xq (.BoolOp .And (a :: b :: rest) pos) (dAnd f g):=.mk fun wh pins s σ H Q I q=>by
  refine pw_and h.h h2.h wh pins s σ H Q I ?_
  obtain ⟨F,S,st,o⟩:=q
  refine ⟨F,S,st,outT.bind (G:=fun F H z=>outT xq F H Q z) (fun e h=>h.step e) (fun _ _ h=>h) (fun _ _ _ h=>h) o fun b F1 H1 e o1=>?_⟩
  cases b with
  | true=>rw [if_pos rfl] at o1 ⊢; exact ⟨F1,S,st.step e,o1⟩
  | false=>rw [if_neg Bool.false_ne_true] at o1 ⊢; exact o1 F1 H1 (Ext.refl e.fh)
theorem dw_or {f g:DS→M Bool} (h:DT X F0 H0 xq a f) (h2:DW X F0 H0 xq (.BoolOp .Or (b :: rest) pos) g):DW X F0 H0 xq (.BoolOp .Or (a :: b :: rest) pos) (dOr f g):=.mk fun wh pins s σ H Q I q=>by
  refine pw_or h.h h2.h wh pins s σ H Q I ?_
  obtain ⟨F,S,st,o⟩:=q
  refine ⟨F,S,st,outT.bind (G:=fun F H z=>outT xq F H Q z) (fun e h=>h.step e) (fun _ _ h=>h) (fun _ _ _ h=>h) o fun b F1 H1 e o1=>?_⟩
  cases b with
  | true=>rw [if_pos rfl] at o1 ⊢; exact o1 F1 H1 (Ext.refl e.fh)
  | false=>rw [if_neg Bool.false_ne_true] at o1 ⊢; exact ⟨F1,S,st.step e,o1⟩
theorem dt_w {e:Expr} {f:DS→M Bool} (h:DW X F0 H0 xq e f):DT X F0 H0 xq e f:=⟨h.h.pt⟩
noncomputable def dAndV (f g:DS→M VR):DS→M VR:=fun S=>mb (f S) fun r=>match r with
  | .ok (.bl true)=>g S
  | .ok (.bl false)=>some (.ok (.ok (.bl false)))
  | _=>none
noncomputable def dOrV (f g:DS→M VR):DS→M VR:=fun S=>mb (f S) fun r=>match r with
  | .ok (.bl true)=>some (.ok (.ok (.bl true)))
  | .ok (.bl false)=>g S
  | _=>none
theorem de_one {op} {f:DS→M VR} (h:DE X F0 H0 xq a f):DE X F0 H0 xq (.BoolOp op [a] pos) f:=⟨pe_one h.h⟩
theorem de_and {f g:DS→M VR} (h:DE X F0 H0 xq a f) (h2:DE X F0 H0 xq (.BoolOp .And (b :: rest) pos) g):DE X F0 H0 xq (.BoolOp .And (a :: b :: rest) pos) (dAndV f g):=.mk fun pins s σ H Q I q=>by
  refine pe_and h.h h2.h pins s σ H Q I ?_
  obtain ⟨F,S,st,o⟩:=q
  refine ⟨F,S,st,outE.mb o fun r v F1 H1 e q o1=>?_⟩
  cases r with
  | bor l=>exact False.elim o1
  | bod ks l=>exact False.elim o1
  | ok d=>
    cases d with
    | bl b=>
      cases b with
      | true=>exact ⟨true,q,by rw [if_pos rfl]; exact ⟨F1,S,st.step e,o1⟩⟩
      | false=>exact ⟨false,q,by rw [if_neg Bool.false_ne_true]; exact o1 (.bl false) F1 H1 (Ext.refl e.fh) rfl⟩
    | _=>exact False.elim o1
theorem de_or {f g:DS→M VR} (h:DE X F0 H0 xq a f) (h2:DE X F0 H0 xq (.BoolOp .Or (b :: rest) pos) g):DE X F0 H0 xq (.BoolOp .Or (a :: b :: rest) pos) (dOrV f g):=.mk fun pins s σ H Q I q=>by
  refine pe_or h.h h2.h pins s σ H Q I ?_
  obtain ⟨F,S,st,o⟩:=q
  refine ⟨F,S,st,outE.mb o fun r v F1 H1 e q o1=>?_⟩
  cases r with
  | bor l=>exact False.elim o1
  | bod ks l=>exact False.elim o1
  | ok d=>
    cases d with
    | bl b=>
      cases b with
      | true=>exact ⟨true,q,by rw [if_pos rfl]; exact o1 (.bl true) F1 H1 (Ext.refl e.fh) rfl⟩
      | false=>exact ⟨false,q,by rw [if_neg Bool.false_ne_true]; exact ⟨F1,S,st.step e,o1⟩⟩
    | _=>exact False.elim o1
noncomputable def dIfE (c:DS→M Bool) (f g:DS→M VR):DS→M VR:=fun S=>mb (c S) fun b=>if b=true then f S else g S
theorem de_ifExp {f g:DS→M VR} {t:DS→M Bool} (hc:DT X F0 H0 xq c t) (ha:DE X F0 H0 xq a f) (hb:DE X F0 H0 xq b g):DE X F0 H0 xq (.IfExp c a b pos) (dIfE t f g):=.mk fun pins s σ H Q I q=>by
  refine pe_ifExp hc.h ha.h hb.h pins s σ H Q I ?_
  obtain ⟨F,S,st,o⟩:=q
  refine ⟨F,S,st,outT.bind (G:=fun F H z=>outE X.K H0 xq F H Q z) (fun e h=>h.step e) (fun _ _ h=>h) (fun _ _ _ h=>h) o fun b F1 H1 e o1=>?_⟩
  cases b with
  | true=>rw [if_pos rfl] at o1 ⊢; exact ⟨F1,S,st.step e,o1⟩
  | false=>rw [if_neg Bool.false_ne_true] at o1 ⊢; exact ⟨F1,S,st.step e,o1⟩
end
section
variable {X:Cx} {F0 H0:Hp} {xq:Addr→Hp→Prop} {pos:Pos} {e:Expr} {es:List Expr} {f:DS→M VR} {fs:DS→M (List VR)}
noncomputable def dNil:DS→M (List VR):=fun _=>some (.ok [])
noncomputable def dCons (f:DS→M VR) (fs:DS→M (List VR)):DS→M (List VR):=fun S=>mb (f S) fun r=>mb (fs S) fun rs=>some (.ok (r :: rs))
theorem da_nil:DA X F0 H0 xq [] dNil:=.mk fun p pins s σ H Q I ⟨F,S,st,o⟩=>pa_nil p pins s σ H Q I (o [] F H (Ext.refl st.ext.fh) rfl)
theorem tCons_of {K:PySem.W.Frag} {σ:St} {H:Hp} {Q:List V→Hp→Prop} (h:tA K F0 H0 xq (dCons f fs) σ H Q):tCons (tE K F0 H0 xq f) (tA K F0 H0 xq fs) σ H Q:=by
  obtain ⟨F,S,st,o⟩:=h
  refine ⟨F,S,st,outE.mbA o fun r v F1 H1 e1 q1 o1=>?_⟩
  refine ⟨F1,S,st.step e1,outA.bind (G:=fun F H z=>outA K H0 xq F H Q z) (fun e h=>h.step e) (fun _ _ h=>h) (fun _ _ _ h=>h) o1 fun rs vs F2 H2 e2 q2 o2=>?_⟩
  exact o2 (v :: vs) F2 H2 (Ext.refl e2.fh) ⟨v,vs,rfl,RR.step e2 q1,q2⟩
noncomputable def unst:Expr→Bool
  | .Starred _ _=>false
  | _=>true
theorem star_cons {e:Expr} {es:List Expr} {env:Env} (h:unst e=true):starEach (e :: es) env=(false,eval e env) :: starEach es env:=by
  cases e <;> first | rfl | cases h
theorem da_cons (ha:DE X F0 H0 xq e f) (hr:DA X F0 H0 xq es fs) (hs:unst e=true:=by rfl):DA X F0 H0 xq (e :: es) (dCons f fs):=
  .mk fun p pins s σ H Q I h=>pa_cons ha.h hr.h (star_cons hs) p pins s σ H Q I (tCons_of h)
noncomputable def datas:List VR→Option (List D)
  | []=>some []
  | .ok d :: r=>(datas r).map (d :: ·)
  | .bor _ :: _=>none
  | .bod _ _ :: _=>none
theorem RRs.datas {K:PySem.W.Frag} {F H:Hp}:∀ {rs:List VR} {vs:List V} {ds:List D},RRs K H0 F H rs vs→PF.datas rs=some ds→RepL K F ds vs
  | [],_,ds,h,e=>by
    have e':([]:List D)=ds:=Option.some.inj e
    subst e'; exact h
  | .ok d :: r,_,ds,h,e=>by
    obtain ⟨v,t,rfl,q,h⟩:=h
    unfold PF.datas at e
    cases z:PF.datas r with
    | none=>rw [z] at e; cases e
    | some l=>
      rw [z] at e
      have e':d :: l=ds:=Option.some.inj e
      subst e'
      exact ⟨v,t,rfl,q,RRs.datas h z⟩
  | .bor _ :: _,_,ds,_,e=>by cases e
  | .bod _ _ :: _,_,ds,_,e=>by cases e
noncomputable def big:Nat:=100000
theorem big_le {n:Nat} (h:n ≤ big):n ≤ sizeLine:=Nat.le_trans h (by rw [sizeLine_eq]; decide)
noncomputable def dTup (fs:DS→M (List VR)):DS→M VR:=fun S=>mb (fs S) fun rs=>match datas rs with
  | some ds=>if ds.length ≤ big then some (.ok (.ok (.tup ds))) else none
  | none=>none
noncomputable def dLst (fs:DS→M (List VR)):DS→M (List D):=fun S=>mb (fs S) fun rs=>match datas rs with
  | some ds=>if ds.length ≤ big then some (.ok ds) else none
  | none=>none
theorem de_tup {x1} (h:DA X F0 H0 xq es fs):DE X F0 H0 xq (.Tuple es x1 pos) (dTup fs):=.mk fun pins s σ H Q I q=>by
  refine pe_tup h.h pins s σ H Q I ?_
  obtain ⟨F,S,st,o⟩:=q
  refine ⟨F,S,st,outA.bind (G:=fun F H z=>outE X.K H0 xq F H Q z) (fun e h=>h.step e) (fun _ _ h=>h) (fun _ _ _ h=>h) o fun rs vs F1 H1 e1 q1 o1=>?_⟩
  cases z:datas rs with
  | none=>simp only [z] at o1; exact False.elim o1
  | some ds=>
    simp only [z] at o1
    have rl:=RRs.datas q1 z
    by_cases hz:ds.length ≤ big
    · rw [if_pos hz] at o1
      refine ⟨by rw [← rl.length]; exact big_le hz,fun p hp=>?_⟩
      have hf:=e1.fh.free hp
      exact o1 (.ref p) _ _ (ext_alloc e1.fh hp) ⟨p,vs,rfl,SqT.of upd_same,rl.mono (same_upd hf)⟩
    · rw [if_neg hz] at o1; exact False.elim o1
theorem df_lst (h:DA X F0 H0 xq es fs):DF X F0 H0 xq (.List es pos) (dLst fs):=.mk fun pins s σ H Q I q=>by
  refine pe_lst h.h pins s σ H Q I ?_
  obtain ⟨F,S,st,o⟩:=q
  refine ⟨F,S,st,outA.bind (G:=fun F H z=>outF X.K xq F H Q z) (fun e h=>h.step e) (fun _ _ h=>h) (fun _ _ _ h=>h) o fun rs vs F1 H1 e1 q1 o1=>?_⟩
  cases z:datas rs with
  | none=>simp only [z] at o1; exact False.elim o1
  | some ds=>
    simp only [z] at o1
    have rl:=RRs.datas q1 z
    by_cases hz:ds.length ≤ big
    · rw [if_pos hz] at o1
      refine ⟨by rw [← rl.length]; exact big_le hz,fun p hp=>?_⟩
      exact o1 p vs F1 _ (ext_own e1.fh hp) hp (e1.fh.free hp) upd_same rl
    · rw [if_neg hz] at o1; exact False.elim o1
noncomputable def spM (K:PySem.W.Frag) (n:Nat) (m:List D→M D):Sp:=fun vs H Q E=>∃ F ds,Same F H∧RepL K F ds vs∧ds.length=n∧match m ds with
  | none=>False
  | some (.error c)=>∀ H',Same H H'→E (.ref c) none H'
  | some (.ok d)=>∀ v F' H',Ext F H F' H'→Rep K F' d v→Q v H'
noncomputable def Ex (xq:Addr→Hp→Prop):XK:=fun c _ H'=>∃ a,c=.ref a∧xq a H'
structure FnD (P:Program) (w:World) (K:PySem.W.Frag) (mg:Str→Option Value) (base:Heap) (CX:CXT) (k:Nat) (x:Str) (n:Nat) (m:List D→M D):Prop where
  ex:∃ (f:Addr) (fd:FuncData) (ps:List Str),mg x=some (.ref f)∧PySem.W.keepIn K (.ref f)=true∧Binds K fd ps []∧ps.length=n∧FnOk P w K mg base CX k f fd ps (spM K n m)
noncomputable def isBor:VR→Bool
  | .bor _=>true
  | .bod _ _=>true
  | .ok _=>false
noncomputable def dCall (n:Nat) (m:List D→M D) (fs:DS→M (List VR)):DS→M VR:=fun S=>mb (fs S) fun rs=>if rs.length=n then mb (m (rs.map toD)) fun d=>if rs.any isBor=true∧noList d=false then none else some (.ok (.ok d)) else none
theorem RRs.rep {K:PySem.W.Frag} {F H:Hp} (fh:Same F H):∀ {rs:List VR} {vs:List V},RRs K H0 F H rs vs→RepL K H (rs.map toD) vs
  | [],_,h=>h
  | r :: rs,_,h=>let ⟨v,t,e,q,h⟩:=h; ⟨v,t,e,RR.rep fh q,RRs.rep fh h⟩
theorem RRs.repF {K:PySem.W.Frag} {F H:Hp}:∀ {rs:List VR} {vs:List V},RRs K H0 F H rs vs→rs.any isBor=false→RepL K F (rs.map toD) vs
  | [],_,h,_=>h
  | .ok d :: rs,_,h,nb=>let ⟨v,t,e,q,h⟩:=h; ⟨v,t,e,q,RRs.repF h (by simpa [isBor] using nb)⟩
  | .bor l :: rs,_,h,nb=>by simp [isBor] at nb
  | .bod ks l :: rs,_,h,nb=>by simp [isBor] at nb
noncomputable def backF (F H F':Hp):Hp:=fun b=>match H b with
  | some (.lst _)=>F b
  | some (.dK _)=>F b
  | _=>F' b
theorem backF_cases (F H F':Hp) (b:Addr):((∃ u,H b=some u∧((∃ xs,u=.lst xs)∨∃ ks,u=.dK ks))∧backF F H F' b=F b)∨((∀ u,H b=some u→(∀ xs,u ≠ .lst xs)∧∀ ks,u ≠ .dK ks)∧backF F H F' b=F' b):=by
  unfold backF
  cases z:H b with
  | none=>exact .inr ⟨fun u e=>by (cases e),rfl⟩
  | some u=>
    cases u with
    | lst xs=>exact .inl ⟨⟨_,rfl,.inl ⟨_,rfl⟩⟩,rfl⟩
    | dK xs=>exact .inl ⟨⟨_,rfl,.inr ⟨_,rfl⟩⟩,rfl⟩
    | _=>exact .inr ⟨fun u e=>by cases e; exact ⟨fun _=>HO.noConfusion,fun _=>HO.noConfusion⟩,rfl⟩
theorem Ext.back {K:PySem.W.Frag} {F H F' H':Hp} {d:D} {v:V} (fh:Same F H) (e:Ext H H F' H') (r:Rep K F' d v) (hd:noList d=true):∃ F'',Ext F H F'' H'∧Rep K F'' d v:=by
  refine ⟨backF F H F',⟨fun b o q=>?_,e.hh,fun b o q=>?_,fun b xs hb fb=>?_⟩,?_⟩
  · rcases backF_cases F H F' b with ⟨_,z⟩ | ⟨_,z⟩
    · rw [z]; exact q
    · rw [z]; exact e.ff b _ (fh b o q)
  · rcases backF_cases F H F' b with ⟨_,z⟩ | ⟨_,z⟩
    · rw [z] at q; exact e.hh b o (fh b o q)
    · rw [z] at q; exact e.fh b o q
  · rcases backF_cases F H F' b with ⟨_,z⟩ | ⟨hu,z⟩
    · rw [z]; exact fb
    · cases xs with
      | lst xs=>exact absurd rfl ((hu _ hb).1 xs)
      | dK xs=>exact absurd rfl ((hu _ hb).2 xs)
  · refine Rep.impT (fun a vs h=>?_) hd r
    have keep:∀ o:HO,(∀ xs,o ≠ .lst xs)→(∀ xs,o ≠ .dK xs)→F' a=some o→backF F H F' a=some o:=fun o no nd q=>by
      rcases backF_cases F H F' a with ⟨⟨u,hu,hh⟩,z⟩ | ⟨_,z⟩
      · have:=e.ff a _ hu
        rw [q] at this
        have:=Option.some.inj this
        subst this
        rcases hh with ⟨xs,hh⟩ | ⟨xs,hh⟩
        · exact absurd hh (no xs)
        · exact absurd hh (nd xs)
      · rw [z]; exact q
    rcases h with (h | ⟨o,h⟩) | h
    · exact .inl (.inl (keep _ (fun _=>HO.noConfusion) (fun _=>HO.noConfusion) h))
    · exact .inl (.inr ⟨o,keep _ (fun _=>HO.noConfusion) (fun _=>HO.noConfusion) h⟩)
    · exact .inr h
theorem de_call {CX:CXT} {k n:Nat} {x:Str} {p:Pos} {m:List D→M D} (Fn:FnD X.prog X.w X.K X.mg X.base CX k x n m) (hr:Room k X.A) (hg:Gl X x) (hx:Passes CX X (Ex xq)) (ha:DA X F0 H0 xq (e :: es) fs)
    (hdb:(x == ("__debug__" : Str))=false:=by decide) (he:starEach (e :: es) X.env=(false,eval e X.env) :: starEach es X.env:=by rfl) (hpl:(backTo pos (starEach es X.env)).any (·.1)=false:=by rfl) :
    DE X F0 H0 xq (.Call (.Name x p) (e :: es) [] pos) (dCall n m fs):=.mk fun pins s σ H Q I q=>by
  obtain ⟨f,fd,ps,hm,hk,hb,hl,G⟩:=Fn.ex
  refine pe_call G hr hg hm hk hb .nil hx ha.h hdb he hpl pins s σ H Q I ?_
  obtain ⟨F,S,st,o⟩:=q
  refine ⟨F,S,st,outA.bind (G:=fun F H z=>outE X.K H0 xq F H Q z) (fun e h=>h.step e) (fun _ _ h=>h) (fun _ _ _ h=>h) o fun rs vs F1 H1 e1 q1 o1=>?_⟩
  show spM X.K n m (vs ++ []) H1 Q (Ex xq)
  rw [List.append_nil]
  by_cases hn:rs.length=n
  · rw [if_pos hn] at o1
    by_cases hb:rs.any isBor=true
    · refine ⟨H1,rs.map toD,Same.refl _,RRs.rep e1.fh q1,by rw [List.length_map]; exact hn,?_⟩
      cases z:m (rs.map toD) with
      | none=>rw [z] at o1; exact o1
      | some y=>
        rw [z] at o1
        cases y with
        | error c=>exact fun H' h=>⟨c,rfl,o1 H' h⟩
        | ok d=>
          intro v F' H' e r
          have o2:outE X.K H0 xq F1 H1 Q (if rs.any isBor=true∧noList d=false then none else some (.ok (.ok d))):=o1
          cases nl:noList d with
          | false=>rw [if_pos ⟨hb,nl⟩] at o2; exact False.elim o2
          | true=>
            rw [if_neg (by rw [nl]; simp)] at o2
            obtain ⟨F'',e',r'⟩:=Ext.back e1.fh e r nl
            exact o2 v F'' H' e' r'
    · have hb':rs.any isBor=false:=by simpa using hb
      refine ⟨F1,rs.map toD,e1.fh,RRs.repF q1 hb',by rw [List.length_map]; exact hn,?_⟩
      cases z:m (rs.map toD) with
      | none=>rw [z] at o1; exact o1
      | some y=>
        rw [z] at o1
        cases y with
        | error c=>exact fun H' h=>⟨c,rfl,o1 H' h⟩
        | ok d=>
          intro v F' H' e r
          have o2:outE X.K H0 xq F1 H1 Q (if rs.any isBor=true∧noList d=false then none else some (.ok (.ok d))):=o1
          rw [if_neg (by rw [hb']; simp)] at o2
          exact o2 v F' H' e r
  · rw [if_neg hn] at o1; exact False.elim o1
end
section
variable {X:Cx} {F0 H0:Hp} {xq:Addr→Hp→Prop} {pos:Pos} {st:Stmt} {rest:List Stmt} {e:Expr}
noncomputable def dNext:DS→Option Fl:=fun S=>some (.next S)
noncomputable def dSeq (g h:DS→Option Fl):DS→Option Fl:=fun S=>match g S with
  | some (.next S')=>h S'
  | x=>x
theorem dss_nil:DSs X F0 H0 xq [] dNext:=.mk fun pins s σ H Dn I ⟨F,S,st,o⟩=>pss_nil pins s σ H Dn I (o σ F H st)
theorem dss_cons {g h:DS→Option Fl} (h1:DS1 X F0 H0 xq st g) (h2:DSs X F0 H0 xq rest h):DSs X F0 H0 xq (st :: rest) (dSeq g h):=.mk fun pins s σ H Dn I q=>by
  refine pss_cons h1.h h2.h pins s σ H Dn I ?_
  obtain ⟨F,S,sk,o⟩:=q
  refine ⟨F,S,sk,?_⟩
  unfold dSeq at o
  cases z:g S with
  | none=>rw [z] at o; exact False.elim o
  | some y=>
    rw [z] at o
    cases y with
    | next S'=>exact fun σ' F' H' sk'=>⟨F',S',sk',o⟩
    | ret d=>exact o
    | brk S'=>exact o
    | cont S'=>exact o
    | ex c=>exact o
theorem dss_one {g:DS→Option Fl} (h1:DS1 X F0 H0 xq st g):DSs X F0 H0 xq [st] g:=⟨pss_one h1.h⟩
noncomputable def liftE (x:M VR) (k:VR→Option Fl):Option Fl:=match x with
  | none=>none
  | some (.error c)=>some (.ex c)
  | some (.ok r)=>k r
theorem outE_of {K:PySem.W.Frag} {F H:Hp} {σ:St} {S:DS} {x:M VR} {k:VR→Option Fl} {Dn:Ends} {Q:VK} (sk:StOk K F0 H0 F H σ S) (o:outS K F0 H0 xq Dn (liftE x k)) (h:∀ r v F1 H1,Ext F H F1 H1→RR K H0 F1 H1 r v→outS K F0 H0 xq Dn (k r)→Q v H1):outE K H0 xq F H Q x:=by
  match x,o with
  | some (.error c),o=>exact fun H' s=>o H' (sk.ext.hh.trans s)
  | some (.ok r),o=>exact fun v F1 H1 e q=>h r v F1 H1 e q o
noncomputable def dSet (i:Nat) (f:DS→M VR):DS→Option Fl:=fun S=>liftE (f S) fun r=>match r with
  | .ok d=>some (.next (S.set i (some (.val d))))
  | _=>none
theorem ds_set (i:Nat) {x:Str} {pos':Pos} {f:DS→M VR} (hN:X.N.Nodup) (he:DE X F0 H0 xq e f) (hi:X.N[i]?=some x:=by rfl) (hx:Loc X.env.scope x:=by first | exact Or.inl rfl | exact Or.inr rfl) (hs:swapsWith e (some (.Name x pos')) pos.line X.env=pure false:=by rfl)
    (hf:X.fn x=true∨X.env.scope.names.lookup x=some .local:=by first | exact .inl rfl | exact .inr rfl | assumption):DS1 X F0 H0 xq (.Assign [.Name x pos'] e pos) (dSet i f):=.mk fun pins s σ H Dn I q=>by
  refine ps_set hN hi hx he.h hs hf pins s σ H Dn I ?_
  obtain ⟨F,S,sk,o⟩:=q
  refine ⟨F,S,sk,outE_of sk o fun r v F1 H1 e1 q1 o1=>?_⟩
  cases r with
  | bor l=>exact False.elim o1
  | bod ks l=>exact False.elim o1
  | ok d=>exact o1 _ F1 H1 ((sk.step e1).setVal q1 i)
noncomputable def dOwn (i:Nat) (f:DS→M (List D)):DS→Option Fl:=fun S=>match f S with
  | none=>none
  | some (.error c)=>some (.ex c)
  | some (.ok l)=>some (.next (S.set i (some (.own l))))
theorem ds_own (i:Nat) {x:Str} {pos':Pos} {f:DS→M (List D)} (hN:X.N.Nodup) (he:DF X F0 H0 xq e f) (hi:X.N[i]?=some x:=by rfl) (hx:Loc X.env.scope x:=by first | exact Or.inl rfl | exact Or.inr rfl) (hs:swapsWith e (some (.Name x pos')) pos.line X.env=pure false:=by rfl)
    (hf:X.fn x=true∨X.env.scope.names.lookup x=some .local:=by first | exact .inl rfl | exact .inr rfl | assumption):DS1 X F0 H0 xq (.Assign [.Name x pos'] e pos) (dOwn i f):=.mk fun pins s σ H Dn I q=>by
  refine ps_set hN hi hx he.h hs hf pins s σ H Dn I ?_
  obtain ⟨F,S,sk,o⟩:=q
  refine ⟨F,S,sk,?_⟩
  unfold dOwn at o
  cases z:f S with
  | none=>rw [z] at o; exact False.elim o
  | some y=>
    rw [z] at o
    cases y with
    | error c=>exact fun H' s=>o H' (sk.ext.hh.trans s)
    | ok l=>exact fun a vs F1 H1 e1 h1 h2 h3 h4=>o _ F1 H1 (sk.setOwn e1 h1 h2 h3 h4 i)
noncomputable def dIf (c:DS→M Bool) (g h:DS→Option Fl):DS→Option Fl:=fun S=>match c S with
  | none=>none
  | some (.error c)=>some (.ex c)
  | some (.ok b)=>if b=true then g S else h S
theorem outT_of {K:PySem.W.Frag} {F H:Hp} {σ:St} {S:DS} {x:M Bool} {k:Bool→Option Fl} {Dn:Ends} {Q:Bool→Hp→Prop} (sk:StOk K F0 H0 F H σ S)
    (o:outS K F0 H0 xq Dn (match x with | none=>none | some (.error c)=>some (.ex c) | some (.ok b)=>k b)) (h:∀ b F1 H1,Ext F H F1 H1→outS K F0 H0 xq Dn (k b)→Q b H1):outT xq F H Q x:=by
  match x,o with
  | some (.error c),o=>exact fun H' s=>o H' (sk.ext.hh.trans s)
  | some (.ok r),o=>exact fun F1 H1 e=>h r F1 H1 e o
theorem ds_if {c:Expr} {a b:List Stmt} {t:DS→M Bool} {g h:DS→Option Fl} (hc:DT X F0 H0 xq c t) (ha:DSs X F0 H0 xq a g) (hb:DSs X F0 H0 xq b h):DS1 X F0 H0 xq (.If c a b pos) (dIf t g h):=.mk fun pins s σ H Dn I q=>by
  refine ps_if hc.h ha.h hb.h pins s σ H Dn I ?_
  obtain ⟨F,S,sk,o⟩:=q
  refine ⟨F,S,sk,outT_of (k:=fun b=>if b=true then g S else h S) sk o fun b F1 H1 e o1=>?_⟩
  cases b with
  | true=>rw [if_pos rfl] at o1 ⊢; exact ⟨F1,S,sk.step e,o1⟩
  | false=>rw [if_neg Bool.false_ne_true] at o1 ⊢; exact ⟨F1,S,sk.step e,o1⟩
noncomputable def dRet (f:DS→M VR):DS→Option Fl:=fun S=>liftE (f S) fun r=>some (.ret (toD r))
theorem ds_ret {f:DS→M VR} (he:DE X F0 H0 xq e f):DS1 X F0 H0 xq (.Return (some e) pos) (dRet f):=.mk fun pins s σ H Dn I q=>by
  refine ps_ret he.h pins s σ H Dn I ?_
  obtain ⟨F,S,sk,o⟩:=q
  refine ⟨F,S,sk,outE_of sk o fun r v F1 H1 e1 q1 o1=>?_⟩
  have ex:=sk.ext.trans e1
  cases r with
  | ok d=>exact o1 v F1 H1 ex q1
  | bor l=>
    obtain ⟨a,vs,rfl,h1,h2,h3,h4⟩:=q1
    refine o1 (.ref a) (upd F1 a (.lst vs)) H1 ⟨ex.ff.trans (same_upd h2),ex.hh,fun b u z=>?_,fun b xs hb fb=>?_⟩ ⟨a,vs,rfl,upd_same,h4.mono (same_upd h2)⟩
    · by_cases eb:b=a
      · subst eb; rw [upd_same] at z; rw [h3]; exact z
      · rw [upd_ne eb] at z; exact ex.fh b u z
    · rw [upd_ne (ne_of_none hb h1)]; exact ex.new b xs hb fb
  | bod ks l=>
    obtain ⟨a,vs,rfl,h1,h2,h3,h4,h5⟩:=q1
    refine o1 (.ref a) (upd F1 a (.dK vs)) H1 ⟨ex.ff.trans (same_upd h2),ex.hh,fun b u z=>?_,fun b xs hb fb=>?_⟩ ⟨a,vs,rfl,upd_same,h4,h5.mono (same_upd h2)⟩
    · by_cases eb:b=a
      · subst eb; rw [upd_same] at z; rw [h3]; exact z
      · rw [upd_ne eb] at z; exact ex.fh b u z
    · rw [upd_ne (ne_of_none hb h1)]; exact ex.new b xs hb fb
noncomputable def dAppend (i:Nat) (f:DS→M VR):DS→Option Fl:=fun S=>match S[i]? with
  | some (some (.own l))=>liftE (f S) fun r=>match r with
    | .ok d=>if l.length < big then some (.next (S.set i (some (.own (l ++ [d]))))) else none
    | _=>none
  | _=>none
theorem ds_append (i:Nat) {x:Str} {p apos cpos:Pos} {f:DS→M VR} (he:DE X F0 H0 xq e f) (hN:X.N[i]?=some x:=by rfl) (hv:Vis X.env.scope x:=by first | exact Or.inl rfl | exact Or.inr (Or.inl rfl) | exact Or.inr (Or.inr rfl))
    (hd:(x == ("__debug__" : Str))=false:=by decide) (hcd:(x == ("__classdict__" : Str))=false:=by decide)
    (hbase:attributeBase (.Name x p) "append" X.env (eval (.Name x p) X.env)=eval (.Name x p) X.env:=by rfl)
    (hfew:((backTo cpos (starEach [e] X.env)).all (fun x=>!x.1) && (backToKw cpos (keywordEach [] X.env)).all (fun x=>x.1.isSome) && decide (([e]:List Expr).length + ([]:List Keyword).length + (if ([]:List Keyword).isEmpty then 0 else 1) < 30))=true:=by rfl)
    (hline:(apos.endLine == cpos.line)=true:=by rfl) (hs:starEach [e] X.env=(false,eval e X.env) :: starEach [] X.env:=by rfl)
    (hsw:swapsWith (.Call (.Attribute (.Name x p) "append" apos) [e] [] cpos) none pos.line X.env=pure false:=by rfl) :
    DS1 X F0 H0 xq (.Expr (.Call (.Attribute (.Name x p) "append" apos) [e] [] cpos) pos) (dAppend i f):=.mk fun pins s σ H Dn I q=>by
  refine ps_expr (pe_bm PySem.F.plainAttrs_list PySem.F.slot_list_append PySem.F.type_list_append mt_append (pe_var hN hv hd hcd) (pa_cons he.h pa_nil hs) hbase hfew hline hs rfl) hsw pins s σ H Dn I ?_
  obtain ⟨F,S,sk,o⟩:=q
  unfold dAppend at o
  have key:∃ l,S[i]?=some (some (Slot.own l)):=by
    cases z:S[i]? with
    | none=>rw [z] at o; exact False.elim o
    | some z1=>
      cases z1 with
      | none=>rw [z] at o; exact False.elim o
      | some sl=>
        cases sl with
        | val d=>rw [z] at o; exact False.elim o
        | owd ks l=>rw [z] at o; exact False.elim o
        | own l=>exact ⟨l,rfl⟩
  · obtain ⟨l,z⟩:=key
    rw [z] at o
    obtain ⟨a,vs,h1,h2,h3,h4,h5⟩:=sk.own i l z
    refine ⟨.ref a,h1,.inl ⟨rfl,vs,SqL.of h4⟩,F,S,sk,outE_of sk o fun r v F1 H1 e1 q1 o1=>?_⟩
    cases r with
    | bor l=>exact False.elim o1
    | bod ks l=>exact False.elim o1
    | ok d=>
      have o2:outS X.K F0 H0 xq Dn (if l.length < big then some (.next (S.set i (some (.own (l ++ [d]))))) else none):=o1
      by_cases hz:l.length < big
      · rw [if_pos hz] at o2
        have sk1:=sk.step e1
        obtain ⟨a',vs',g1,g2,g3,g4,g5⟩:=sk1.own i l z
        have ea:a'=a:=by rw [h1] at g1; simpa using g1.symm
        subst ea
        refine ⟨a',vs',v,rfl,rfl,g4,Nat.lt_of_lt_of_le (by rw [← g5.length]; exact hz) (big_le (Nat.le_refl _)),?_⟩
        exact o2 σ F1 _ (sk1.mut z g1 (g5.append (.one q1)))
      · rw [if_neg hz] at o2; exact False.elim o2
noncomputable def dStore (i:Nat) (g f:DS→M VR):DS→Option Fl:=fun S=>match S[i]? with
  | some (some (.own l))=>liftE (f S) fun r=>match r with
    | .ok d=>liftE (g S) fun r2=>match r2 with
      | .ok (.int k)=>match ixN l.length k with
        | some j=>some (.next (S.set i (some (.own (l.set j d)))))
        | none=>none
      | _=>none
    | _=>none
  | _=>none
theorem ds_store (i:Nat) {x:Str} {p p2:Pos} {ix:Expr} {f g:DS→M VR} (hix:DE X F0 H0 xq ix g) (he:DE X F0 H0 xq e f) (hN:X.N[i]?=some x:=by rfl) (hv:Vis X.env.scope x:=by first | exact Or.inl rfl | exact Or.inr (Or.inl rfl) | exact Or.inr (Or.inr rfl))
    (hd:(x == ("__debug__" : Str))=false:=by decide) (hcd:(x == ("__classdict__" : Str))=false:=by decide)
    (ha:∀ v,assign (.Subscript (.Name x p) ix p2) X.env v=(do
      let ov ← holding [v] (eval (.Name x p) X.env)
      let iv ← holding [v,ov] (eval ix X.env)
      standAt p2
      holding [v,ov,iv] (setItem ov iv v)
      release [v,ov,iv] []):=by intro _; rfl)
    (hs:swapsWithSole [.Subscript (.Name x p) ix p2] e pos.line X.env=pure false:=by rfl) (hw:swappedStores [.Subscript (.Name x p) ix p2] e X.env=pure none:=by rfl)
    (h1:(assignEach [.Subscript (.Name x p) ix p2] X.env).map (·.2)=[assign (.Subscript (.Name x p) ix p2) X.env]:=by rfl) :
    DS1 X F0 H0 xq (.Assign [.Subscript (.Name x p) ix p2] e pos) (dStore i g f):=.mk fun pins s σ H Dn I q=>by
  refine ps_asg he.h (pg_sub (pe_var hN hv hd hcd) hix.h set_list ha) hs hw h1 pins s σ H Dn I ?_
  obtain ⟨F,S,sk,o⟩:=q
  unfold dStore at o
  cases z:S[i]? with
  | none=>rw [z] at o; exact False.elim o
  | some z1=>
    cases z1 with
    | none=>rw [z] at o; exact False.elim o
    | some sl=>
      cases sl with
      | val d=>rw [z] at o; exact False.elim o
      | owd ks l=>rw [z] at o; exact False.elim o
      | own l=>
        rw [z] at o
        refine ⟨F,S,sk,outE_of sk o fun r v F1 H1 e1 q1 o1=>?_⟩
        cases r with
        | bor l=>exact False.elim o1
        | bod ks l=>exact False.elim o1
        | ok d=>
          have sk1:=sk.step e1
          obtain ⟨a,vs,h1,h2,h3,h4,h5⟩:=sk1.own i l z
          refine ⟨.ref a,h1,F1,S,sk1,outE_of sk1 o1 fun r2 v2 F2 H2 e2 q2 o2=>?_⟩
          cases r2 with
          | bor l=>exact False.elim o2
          | bod ks l=>exact False.elim o2
          | ok d2=>
            cases d2 with
            | int k=>
              cases y:ixN l.length k with
              | none=>simp only [y] at o2; exact False.elim o2
              | some j=>
                simp only [y] at o2
                have sk2:=sk1.step e2
                obtain ⟨a',vs',g1,g2,g3,g4,g5⟩:=sk2.own i l z
                have ea:a'=a:=by rw [h1] at g1; simpa using g1.symm
                subst ea
                refine ⟨a',vs',k,j,rfl,q2,g4,by rw [← g5.length]; exact y,?_⟩
                exact o2 σ F2 _ (sk2.mut z g1 (RepL.set (Rep.mono e2.ff q1) j g5))
            | _=>exact False.elim o2
end
end PF
set_option Elab.async false
set_option linter.all false
set_option maxRecDepth 100000
set_option maxHeartbeats 400000
namespace PF
open PySem PySem.Spec L2
open PyProof.Rows hiding St
structure ItOk (K:PySem.W.Frag) (J:It) (Fb:Hp) (ds:List D):Prop where
  go:∀ (i:Nat) (F H:Hp),i < ds.length→Same Fb F→Same F H→J.go i H
  yld:∀ (i:Nat) (F H:Hp) (x:V) (H':Hp),Same Fb F→Same F H→J.yld i H x H'→∀ d,ds[i]?=some d→∃ F',Ext F H F' H'∧Rep K F' d x
  stop:∀ (i:Nat) (F H:Hp),ds.length ≤ i→Same Fb F→Same F H→J.stop i H
section
variable (K:PySem.W.Frag) (F0 H0:Hp) (xq:Addr→Hp→Prop)
noncomputable def outI (F H:Hp) (R:It→Hp→Prop):M (List D)→Prop
  | none=>False
  | some (.error c)=>∀ H',Same H H'→xq c H'
  | some (.ok ds)=>∀ J F' H',Ext F H F' H'→ItOk K J F' ds→R J H'
noncomputable def tI (f:DS→M (List D)):TI:=fun σ H R=>∃ F S,StOk K F0 H0 F H σ S∧outI K xq F H R (f S)
noncomputable def tG (set:D→DS→Option DS):TG:=fun v σ H Q=>∃ F S d,StOk K F0 H0 F H σ S∧Rep K F d v∧match set d S with
  | none=>False
  | some S'=>∀ σ' F' H',Ext F H F' H'→StOk K F0 H0 F' H' σ' S'→Q σ' H'
noncomputable def tGs (set:List D→DS→Option DS):TGs:=fun vs σ H Q=>∃ F S ds,StOk K F0 H0 F H σ S∧RepL K F ds vs∧match set ds S with
  | none=>False
  | some S'=>∀ σ' F' H',Ext F H F' H'→StOk K F0 H0 F' H' σ' S'→Q σ' H'
end
structure DI (X:Cx) (F0 H0:Hp) (xq:Addr→Hp→Prop) (tg it:Expr) (f:DS→M (List D)):Prop where
  mk ::
  h:PI X tg it (tI X.K F0 H0 xq f)
structure DG (X:Cx) (F0 H0:Hp) (tg:Expr) (set:D→DS→Option DS):Prop where
  mk ::
  h:PG X tg (tG X.K F0 H0 set)
structure DGs (X:Cx) (F0 H0:Hp) (ts:List Expr) (set:List D→DS→Option DS):Prop where
  mk ::
  h:PGs X ts (tGs X.K F0 H0 set)
section
variable {X:Cx} {F0 H0:Hp} {xq:Addr→Hp→Prop} {pos:Pos}
noncomputable def sName (i:Nat):D→DS→Option DS:=fun d S=>some (S.set i (some (.val d)))
theorem dg_name (i:Nat) {x:Str} (hN:X.N.Nodup) (hi:X.N[i]?=some x:=by rfl) (hx:Loc X.env.scope x:=by first | exact Or.inl rfl | exact Or.inr rfl)
    (hf:X.fn x=true∨X.env.scope.names.lookup x=some .local:=by first | exact .inl rfl | exact .inr rfl | assumption):DG X F0 H0 (.Name x pos) (sName i):=.mk fun pins s σ H v u Q I r h=>by
  refine pg_name hN hi hx hf pins s σ H v u Q I r ?_
  obtain ⟨F,S,d,sk,q,o⟩:=h
  exact o _ F H (Ext.refl sk.ext.fh) (sk.setVal q i)
noncomputable def sNil:List D→DS→Option DS:=fun ds S=>match ds with
  | []=>some S
  | _ :: _=>none
noncomputable def sCons (s:D→DS→Option DS) (r:List D→DS→Option DS):List D→DS→Option DS:=fun ds S=>match ds with
  | []=>none
  | d :: ds=>match s d S with
    | none=>none
    | some S'=>r ds S'
theorem dgs_nil:DGs X F0 H0 [] sNil:=.mk fun pins s σ H vs us Q I r h=>by
  refine pgs_nil pins s σ H vs us Q I r ?_
  obtain ⟨F,S,ds,sk,q,o⟩:=h
  cases ds with
  | nil=>exact ⟨q,o σ F H (Ext.refl sk.ext.fh) sk⟩
  | cons d ds=>exact False.elim o
theorem dgs_cons (i:Nat) {x:Str} {p:Pos} {es:List Expr} {sr:List D→DS→Option DS} (hN:X.N.Nodup) (h2:DGs X F0 H0 es sr) (hi:X.N[i]?=some x:=by rfl) (hx:Loc X.env.scope x:=by first | exact Or.inl rfl | exact Or.inr rfl)
    (hf:X.fn x=true∨X.env.scope.names.lookup x=some .local:=by first | exact .inl rfl | exact .inr rfl | assumption)
    (hs:(assignEach (.Name x p :: es) X.env).map (·.2)=assign (.Name x p) X.env :: (assignEach es X.env).map (·.2):=by rfl):DGs X F0 H0 (.Name x p :: es) (sCons (sName i) sr):=.mk fun pins s σ H vs us Q I r h=>by
  refine pgs_cons (pg_name hN hi hx hf) h2.h hs pins s σ H vs us Q I r ?_
  obtain ⟨F,S,ds,sk,q,o⟩:=h
  cases ds with
  | nil=>exact False.elim o
  | cons d ds=>
    obtain ⟨v,t,rfl,q1,q2⟩:=q
    exact ⟨v,t,rfl,F,_,ds,sk.setVal q1 i,q2,o⟩
noncomputable def sTup (n:Nat) (s:List D→DS→Option DS):D→DS→Option DS:=fun d S=>match d with
  | .tup l=>if l.length=n then s l S else none
  | _=>none
theorem dg_tup {es:List Expr} {k n:Nat} {sr:List D→DS→Option DS} (hc:X.calm=true) (h:DGs X F0 H0 es sr) (hn:(assignEach es X.env).length=n:=by rfl) (hst:(assignEach es X.env).findIdx? (·.1)=none:=by rfl) :
    DG X F0 H0 (.Tuple es k pos) (sTup n sr):=.mk fun pins s σ H v u Q I r q=>by
  refine pg_tup hc h.h hn hst pins s σ H v u Q I r ?_
  obtain ⟨F,S,d,sk,q,o⟩:=q
  cases d with
  | non=>exact False.elim o
  | bl _=>exact False.elim o
  | int _=>exact False.elim o
  | str _=>exact False.elim o
  | lst _=>exact False.elim o
  | scr _=>exact False.elim o
  | dic _ _=>exact False.elim o
  | tup l=>
    obtain ⟨a,vs,rfl,ht,rl⟩:=q
    have o':(match (if l.length=n then sr l S else none) with | none=>False | some S'=>∀ σ' F' H',Ext F H F' H'→StOk X.K F0 H0 F' H' σ' S'→Q σ' H'):=o
    by_cases hl:l.length=n
    · rw [if_pos hl] at o'
      exact ⟨a,vs,rfl,SqT.same sk.ext.fh ht,by rw [← rl.length]; exact hl,F,S,l,sk,rl,o'⟩
    · rw [if_neg hl] at o'; exact False.elim o'
noncomputable def iSeq (K:PySem.W.Frag) (tl:TE):TI:=fun σ H R=>tl σ H fun x H1=>∃ a,x=.ref a∧(((∃ xs,SqL K H1 a xs)∧R (Itl K a) H1)∨((∃ xs,SqT K H1 a xs)∧R (Itt K a) H1))
theorem pi_seq {l tg:Expr} {tl:TE} (hl:PE X l tl):PI X tg l (iSeq X.K tl):=by
  intro pins s σ H R I h
  refine thn (hl pins s σ H _ I h) fun v s1 ⟨x,H1,I1,r1,q1⟩=>?_
  obtain ⟨a,e,q1⟩:=q1
  subst e
  cases r1
  rcases q1 with ⟨⟨xs,hq⟩,q⟩ | ⟨⟨xs,hq⟩,q⟩
  · obtain ⟨its,rv,p,hz⟩:=I1.list hq
    refine wpAny_pyIter_list p.isList ?_
    refine ⟨s1.heap.objs.size,[s1.heap.objs.size],_,_,H1,rfl,I1.kept (t':=s1.toks) fun b o e=>Heap.get?_push_of_some _ e,turn_list a _,⟨_,Heap.get?_push_size _ rfl,rfl,rfl⟩,fun b hb=>?_,q⟩
    have e:b=s1.heap.objs.size:=by simpa using hb
    subst e
    exact I1.fpOk (Nat.le_refl _) (I1.hok.fresh (Nat.le_refl _))
  · obtain ⟨its,rv,p,hz⟩:=I1.tuple hq
    refine wpAny_pyIter_tuple (show s1.heap.IsTuple a its.toArray from p) ?_
    refine ⟨s1.heap.objs.size,[s1.heap.objs.size],_,_,H1,rfl,I1.kept (t':=s1.toks) fun b o e=>Heap.get?_push_of_some _ e,turn_tuple a _,⟨_,Heap.get?_push_size _ rfl,rfl,rfl⟩,fun b hb=>?_,q⟩
    have e:b=s1.heap.objs.size:=by simpa using hb
    subst e
    exact I1.fpOk (Nat.le_refl _) (I1.hok.fresh (Nat.le_refl _))
noncomputable def items:VR→Option (List D)
  | .ok (.tup l)=>some l
  | .ok (.lst l)=>some l
  | .ok (.scr l)=>some (l.map .int)
  | _=>none
noncomputable def dIter (f:DS→M VR):DS→M (List D):=fun S=>mb (f S) fun r=>match items r with
  | some l=>some (.ok l)
  | none=>none
theorem ItOk.ofL {K:PySem.W.Frag} {Fb:Hp} {a:Addr} {vs:List V} {ds:List D} (h:SqL K Fb a vs) (r:RepL K Fb ds vs):ItOk K (Itl K a) Fb ds where
  go:=fun i F H hi e1 e2=>⟨vs,vs[i]'(by rw [← r.length]; exact hi),(e1.trans e2).seq h,by simp [← r.length,hi]⟩
  yld:=fun i F H x H' e1 e2 y d hd=>by
    obtain ⟨e,y⟩:=y
    subst e
    obtain ⟨v,q1,q2⟩:=r.get hd
    have:=y vs ((e1.trans e2).seq h)
    rw [q1] at this; cases this
    exact ⟨F,Ext.refl e2,q2.mono e1⟩
  stop:=fun i F H hi e1 e2=>⟨vs,(e1.trans e2).seq h,by rw [← r.length]; exact hi⟩
theorem ItOk.ofT {K:PySem.W.Frag} {Fb:Hp} {a:Addr} {vs:List V} {ds:List D} (h:SqT K Fb a vs) (r:RepL K Fb ds vs):ItOk K (Itt K a) Fb ds where
  go:=fun i F H hi e1 e2=>⟨vs,vs[i]'(by rw [← r.length]; exact hi),SqT.same (e1.trans e2) h,by simp [← r.length,hi]⟩
  yld:=fun i F H x H' e1 e2 y d hd=>by
    obtain ⟨e,y⟩:=y
    subst e
    obtain ⟨v,q1,q2⟩:=r.get hd
    have:=y vs (SqT.same (e1.trans e2) h)
    rw [q1] at this; cases this
    exact ⟨F,Ext.refl e2,q2.mono e1⟩
  stop:=fun i F H hi e1 e2=>⟨vs,SqT.same (e1.trans e2) h,by rw [← r.length]; exact hi⟩
theorem repL_ints {K:PySem.W.Frag} {H:Hp}:∀ l:List Int,RepL K H (l.map D.int) (l.map V.int)
  | []=>rfl
  | i :: l=>⟨_,_,rfl,rfl,repL_ints l⟩
theorem di_seq {e tg:Expr} {f:DS→M VR} (h:DE X F0 H0 xq e f):DI X F0 H0 xq tg e (dIter f):=.mk fun pins s σ H R I q=>by
  refine pi_seq h.h pins s σ H R I ?_
  obtain ⟨F,S,sk,o⟩:=q
  refine ⟨F,S,sk,outE.bind (G:=fun F H z=>outI X.K xq F H R z) (fun {F H F' H' z} e h=>?_) (fun _ _ h=>h) (fun _ _ _ h=>h) o fun r v F1 H1 e1 q1 o1=>?_⟩
  · match z,h with
    | some (.error c),h=>exact fun H2 s=>h H2 (e.hh.trans s)
    | some (.ok r),h=>exact fun v F2 H2 e2 q=>h v F2 H2 (e.trans e2) q
  · cases r with
    | bor l=>exact False.elim o1
    | bod ks l=>exact False.elim o1
    | ok d=>
      cases d with
      | tup l=>
        obtain ⟨a,vs,rfl,ht,rl⟩:=q1
        exact ⟨a,rfl,.inr ⟨⟨vs,SqT.same e1.fh ht⟩,o1 _ F1 H1 (Ext.refl e1.fh) (ItOk.ofT ht rl)⟩⟩
      | lst l=>
        obtain ⟨a,vs,rfl,ht,rl⟩:=q1
        exact ⟨a,rfl,.inl ⟨⟨vs,SqL.of (e1.fh _ _ ht)⟩,o1 _ F1 H1 (Ext.refl e1.fh) (ItOk.ofL (SqL.of ht) rl)⟩⟩
      | scr l=>
        obtain ⟨a,rfl,ht⟩:=q1
        exact ⟨a,rfl,.inl ⟨⟨_,e1.fh.seq ht⟩,o1 _ F1 H1 (Ext.refl e1.fh) (ItOk.ofL ht (repL_ints l))⟩⟩
      | _=>exact False.elim o1
noncomputable def rangeD (lo hi:Int):List D:=(List.range (hi - lo).toNat).map fun k=>.int (lo + (k:Nat))
theorem ItOk.range {K:PySem.W.Frag} {Fb:Hp} (lo hi:Int):ItOk K (Itr lo (hi - lo).toNat) Fb (rangeD lo hi) where
  go:=fun i F H hi' e1 e2=>by
    show i < (hi - lo).toNat
    unfold rangeD at hi'
    rw [List.length_map,List.length_range] at hi'
    exact hi'
  yld:=fun i F H x H' e1 e2 y d hd=>by
    obtain ⟨e,y⟩:=y
    subst e y
    unfold rangeD at hd
    rw [List.getElem?_map] at hd
    cases z:(List.range (hi - lo).toNat)[i]? with
    | none=>rw [z] at hd; cases hd
    | some k=>
      rw [z] at hd
      have ek:i=k:=by
        have:=List.getElem?_eq_some_iff.mp z
        obtain ⟨h1,h2⟩:=this
        simpa using h2
      subst ek
      have hd':D.int (lo + (i:Nat))=d:=Option.some.inj hd
      subst hd'
      exact ⟨F,Ext.refl e2,rfl⟩
  stop:=fun i F H hi' e1 e2=>by
    show (hi - lo).toNat ≤ i
    unfold rangeD at hi'
    rw [List.length_map,List.length_range] at hi'
    exact hi'
noncomputable def rOk (j:Int):Bool:=decide (-1000000000 ≤ j) && decide (j ≤ 1000000000)
theorem rOk_iff {j:Int} (h:rOk j=true):-(2 ^ 62) ≤ j∧j < 2 ^ 62:=by
  unfold rOk at h
  rw [Bool.and_eq_true] at h
  have h1:=of_decide_eq_true h.1
  have h2:=of_decide_eq_true h.2
  (clear h; omega)
noncomputable def dRange1 (fs:DS→M (List VR)):DS→M (List D):=fun S=>mb (fs S) fun rs=>match rs with
  | [.ok (.int j)]=>if rOk j=true then some (.ok (rangeD 0 j)) else none
  | _=>none
noncomputable def dRange2 (fs:DS→M (List VR)):DS→M (List D):=fun S=>mb (fs S) fun rs=>match rs with
  | [.ok (.int i),.ok (.int j)]=>if rOk i=true∧rOk j=true then some (.ok (rangeD i j)) else none
  | _=>none
theorem outI.step {K:PySem.W.Frag} {F H F' H':Hp} {R:It→Hp→Prop} {z:M (List D)} (e:Ext F H F' H') (h:outI K xq F H R z):outI K xq F' H' R z:=by
  match z,h with
  | some (.error c),h=>exact fun H2 s=>h H2 (e.hh.trans s)
  | some (.ok r),h=>exact fun v F2 H2 e2 q=>h v F2 H2 (e.trans e2) q
theorem di_range1 {a tg:Expr} {p:Pos} {fs:DS→M (List VR)} (hg:Gl X "range") (hm:X.mg "range" = none) (h:DA X F0 H0 xq [a] fs) (hs:starEach [a] X.env=[(false,eval a X.env)]:=by rfl):DI X F0 H0 xq tg (.Call (.Name "range" p) [a] [] pos) (dRange1 fs):=.mk fun pins s σ H R I q=>by
  refine pi_range1 hg hm h.h hs pins s σ H R I ?_
  obtain ⟨F,S,sk,o⟩:=q
  refine ⟨F,S,sk,outA.bind (G:=fun F H z=>outI X.K xq F H R z) (fun e h=>h.step e) (fun _ _ h=>h) (fun _ _ _ h=>h) o fun rs vs F1 H1 e1 q1 o1=>?_⟩
  have key:∃ j,rs=[.ok (.int j)]:=by
    cases rs with
    | nil=>exact False.elim o1
    | cons r1 rs=>
      cases r1 with
      | bor l=>exact False.elim o1
      | bod ks l=>exact False.elim o1
      | ok d=>
        cases d with
        | int j=>
          cases rs with
          | nil=>exact ⟨j,rfl⟩
          | cons r2 rs=>exact False.elim o1
        | _=>exact False.elim o1
  · obtain ⟨j,rfl⟩:=key
    obtain ⟨v,t,rfl,q2,rfl⟩:=q1
    obtain rfl:v=.int j:=q2
    have o2:outI X.K xq F1 H1 R (if rOk j=true then some (.ok (rangeD 0 j)) else none):=o1
    by_cases hj:rOk j=true
    · rw [if_pos hj] at o2
      have b:=rOk_iff hj
      have:=o2 (Itr 0 (j - 0).toNat) F1 H1 (Ext.refl e1.fh) (ItOk.range 0 j)
      rw [Int.sub_zero] at this
      exact ⟨j,rfl,b.1,b.2,this⟩
    · rw [if_neg hj] at o2; exact False.elim o2
theorem di_range2 {a b tg:Expr} {p:Pos} {fs:DS→M (List VR)} (hg:Gl X "range") (hm:X.mg "range" = none) (h:DA X F0 H0 xq [a,b] fs) (hs:starEach [a,b] X.env=[(false,eval a X.env),(false,eval b X.env)]:=by rfl) (hs2:starEach [b] X.env=[(false,eval b X.env)]:=by rfl) :
    DI X F0 H0 xq tg (.Call (.Name "range" p) [a,b] [] pos) (dRange2 fs):=.mk fun pins s σ H R I q=>by
  refine pi_range2 hg hm h.h hs hs2 pins s σ H R I ?_
  obtain ⟨F,S,sk,o⟩:=q
  refine ⟨F,S,sk,outA.bind (G:=fun F H z=>outI X.K xq F H R z) (fun e h=>h.step e) (fun _ _ h=>h) (fun _ _ _ h=>h) o fun rs vs F1 H1 e1 q1 o1=>?_⟩
  have key:∃ i j,rs=[.ok (.int i),.ok (.int j)]:=by
    cases rs with
    | nil=>exact False.elim o1
    | cons r1 rs=>
      cases r1 with
      | bor l=>exact False.elim o1
      | bod ks l=>exact False.elim o1
      | ok d=>
        cases d with
        | int i=>
          cases rs with
          | nil=>exact False.elim o1
          | cons r2 rs=>
            cases r2 with
            | bor l=>exact False.elim o1
            | bod ks l=>exact False.elim o1
            | ok d2=>
              cases d2 with
              | int j=>
                cases rs with
                | nil=>exact ⟨i,j,rfl⟩
                | cons r3 rs=>exact False.elim o1
              | _=>exact False.elim o1
        | _=>exact False.elim o1
  · obtain ⟨i,j,rfl⟩:=key
    obtain ⟨v,t,rfl,q2,v',t',rfl,q3,rfl⟩:=q1
    obtain rfl:v=.int i:=q2
    obtain rfl:v'=.int j:=q3
    have o2:outI X.K xq F1 H1 R (if rOk i=true∧rOk j=true then some (.ok (rangeD i j)) else none):=o1
    by_cases hj:rOk i=true∧rOk j=true
    · rw [if_pos hj] at o2
      have b1:=rOk_iff hj.1
      have b2:=rOk_iff hj.2
      exact ⟨i,j,rfl,⟨b1.1,b1.2,b2.1,b2.2⟩,o2 (Itr i (j - i).toNat) F1 H1 (Ext.refl e1.fh) (ItOk.range i j)⟩
    · rw [if_neg hj] at o2; exact False.elim o2
end
noncomputable def loopD (set:D→DS→Option DS) (g:DS→Option Fl):List D→DS→Option Fl
  | [],S=>some (.next S)
  | d :: r,S=>match set d S with
    | none=>none
    | some S1=>match g S1 with
      | some (.next S2)=>loopD set g r S2
      | some (.cont S2)=>loopD set g r S2
      | some (.brk S2)=>some (.next S2)
      | x=>x
noncomputable def dFor (f:DS→M (List D)) (set:D→DS→Option DS) (g:DS→Option Fl):DS→Option Fl:=fun S=>match f S with
  | none=>none
  | some (.error c)=>some (.ex c)
  | some (.ok ds)=>loopD set g ds S
noncomputable def whileD (c:DS→M Bool) (g:DS→Option Fl):Nat→DS→Option Fl
  | 0,_=>none
  | n + 1,S=>match c S with
    | none=>none
    | some (.error e)=>some (.ex e)
    | some (.ok false)=>some (.next S)
    | some (.ok true)=>match g S with
      | some (.next S2)=>whileD c g n S2
      | some (.cont S2)=>whileD c g n S2
      | some (.brk S2)=>some (.next S2)
      | x=>x
section
variable {K:PySem.W.Frag} {F0 H0 F1 H1 F H:Hp} {σ:St} {S:DS} {xq:Addr→Hp→Prop} {Dn:Ends}
theorem StOk.base (s:StOk K F0 H0 F H σ S):StOk K F H0 F H σ S:=⟨⟨Same.refl _,s.ext.hh,s.ext.fh,fun _ _ _ e=>e⟩,s.len,s.val,s.own,s.sep,s.owd,s.sepd⟩
theorem Ext.rebase (e:Ext F0 H0 F1 H1) (s:Ext F1 H0 F H):Ext F0 H0 F H:=⟨e.ff.trans s.ff,s.hh,s.fh,fun a xs h f=>s.new a xs h (e.new a xs h f)⟩
theorem StOk.rebase (e:Ext F0 H0 F1 H1) (s:StOk K F1 H0 F H σ S):StOk K F0 H0 F H σ S:=⟨e.rebase s.ext,s.len,s.val,s.own,s.sep,s.owd,s.sepd⟩
theorem outS.rebase {x:Option Fl} (e:Ext F0 H0 F1 H1) (o:outS K F0 H0 xq Dn x):outS K F1 H0 xq Dn x:=by
  match x,o with
  | some (.next S),o=>exact fun σ F H s=>o σ F H (s.rebase e)
  | some (.brk S),o=>exact fun σ F H s=>o σ F H (s.rebase e)
  | some (.cont S),o=>exact fun σ F H s=>o σ F H (s.rebase e)
  | some (.ret d),o=>exact fun v F H s r=>o v F H (e.rebase s) r
  | some (.ex c),o=>exact o
end
section
variable {X:Cx} {F0 H0:Hp} {xq:Addr→Hp→Prop} {pos:Pos}
theorem ds_for {tg iter:Expr} {body:List Stmt} {f:DS→M (List D)} {set:D→DS→Option DS} {g:DS→Option Fl} (hp:PassesOwn (model X.prog X.w) X.A X.env X.xe) (hc:X.calm=true) (hi:DI X F0 H0 xq tg iter f)
    (hg:∀ F0,DG X F0 H0 tg set) (hb:∀ F0,DSs X F0 H0 xq body g) (hs:∀ x,foldedSetIterable iter X.env x=pure x:=by intro _; rfl):DS1 X F0 H0 xq (.For tg iter body [] pos) (dFor f set g):=.mk fun pins s σ H Dn I q=>by
  obtain ⟨F,S,sk,o⟩:=q
  have key:∀ F1,PS X (.For tg iter body [] pos) (tFor (tI X.K F0 H0 xq f) (tG X.K F1 H0 set) (tS X.K F1 H0 xq g)):=fun F1=>ps_for hp hc hi.h (hg F1).h (hb F1).h hs
  -- the base of the loop is the kept part at its start,which is known only behind the source: so the rule is taken at every base
  refine ps_for (g:=fun v σ H Q=>∃ F1,tG X.K F1 H0 set v σ H Q) (tb:=fun Dn σ H=>∃ F1,tS X.K F1 H0 xq g Dn σ H) hp hc hi.h (fun pins s σ H v u Q I r ⟨F1,h⟩=>(hg F1).h pins s σ H v u Q I r h) (fun pins s σ H Dn I ⟨F1,h⟩=>(hb F1).h pins s σ H Dn I h) hs pins s σ H Dn I ?_
  refine ⟨F,S,sk,?_⟩
  unfold dFor at o
  cases z:f S with
  | none=>rw [z] at o; exact False.elim o
  | some y=>
    rw [z] at o
    cases y with
    | error c=>exact fun H' s=>o H' (sk.ext.hh.trans s)
    | ok ds=>
      intro J F1 H1 e it
      have ex:=sk.ext.trans e
      have o1:outS X.K F1 H0 xq Dn (loopD set g ds S):=outS.rebase ex o
      refine ⟨fun i m σ' H'=>m=ds.length - i∧i ≤ ds.length∧∃ F' S',StOk X.K F1 H0 F' H' σ' S'∧outS X.K F1 H0 xq Dn (loopD set g (ds.drop i) S'),⟨ds.length,by simp,Nat.zero_le _,F1,S,(sk.step e).base,by simpa using o1⟩,?_⟩
      rintro i m σ' H' ⟨rfl,hi',F',S',sk',o'⟩
      by_cases hlt:i < ds.length
      · have hd:ds.drop i=ds[i] :: ds.drop (i + 1):=List.drop_eq_getElem_cons hlt
        rw [hd] at o'
        refine .inr ⟨it.go i F' H' hlt sk'.ext.ff sk'.ext.fh,fun σ2 H2=>∃ F2 S2,StOk X.K F1 H0 F2 H2 σ2 S2∧outS X.K F1 H0 xq Dn (loopD set g (ds.drop (i + 1)) S2),fun σ2 H2 n=>⟨ds.length - (i + 1),by (clear n hd o' sk' hi' o1 ex it e z o key sk I hs hb hg hi hc hp; omega),rfl,hlt,n⟩,fun x H2 y=>?_⟩
        obtain ⟨F2,e2,r2⟩:=it.yld i F' H' x H2 sk'.ext.ff sk'.ext.fh y ds[i] (List.getElem?_eq_getElem hlt)
        refine ⟨F1,F2,S',ds[i],sk'.step e2,r2,?_⟩
        unfold loopD at o'
        cases z1:set ds[i] S' with
        | none=>rw [z1] at o'; exact o'
        | some S1=>
          rw [z1] at o'
          intro σ3 F3 H3 _ sk3
          refine ⟨F1,F3,S1,sk3,?_⟩
          simp only at o'
          cases z2:g S1 with
          | none=>rw [z2] at o'; exact o'
          | some fl=>
            rw [z2] at o'
            cases fl with
            | next S2=>exact fun σ4 F4 H4 sk4=>⟨F4,S2,sk4,o'⟩
            | cont S2=>exact fun σ4 F4 H4 sk4=>⟨F4,S2,sk4,o'⟩
            | brk S2=>exact fun σ4 F4 H4 sk4=>o' σ4 F4 H4 sk4
            | ret d=>exact o'
            | ex c=>exact o'
      · have ei:i=ds.length:=by (clear o' sk' o1 ex it e z o key sk I hs hb hg hi hc hp; omega)
        subst ei
        rw [List.drop_length] at o'
        exact .inl ⟨it.stop _ F' H' (Nat.le_refl _) sk'.ext.ff sk'.ext.fh,o' σ' F' H' sk'⟩
theorem ds_while (n:Nat) {c:Expr} {body:List Stmt} {t:DS→M Bool} {g:DS→Option Fl} (hp:PassesOwn (model X.prog X.w) X.A X.env X.xe) (hc:DT X F0 H0 xq c t) (hb:DSs X F0 H0 xq body g):DS1 X F0 H0 xq (.While c body [] pos) (whileD t g n):=.mk fun pins s σ H Dn I q=>by
  obtain ⟨F,S,sk,o⟩:=q
  refine ps_while hp hc.h hb.h pins s σ H Dn I ?_
  refine ⟨fun m σ' H'=>∃ F' S',StOk X.K F0 H0 F' H' σ' S'∧outS X.K F0 H0 xq Dn (whileD t g m S'),⟨n,F,S,sk,o⟩,?_⟩
  rintro m σ1 H1 ⟨F1,S1,sk1,o1⟩
  cases m with
  | zero=>exact False.elim o1
  | succ m=>
    refine ⟨F1,S1,sk1,?_⟩
    unfold whileD at o1
    cases z:t S1 with
    | none=>rw [z] at o1; exact False.elim o1
    | some y=>
      rw [z] at o1
      cases y with
      | error c=>exact fun H' s=>o1 H' (sk1.ext.hh.trans s)
      | ok b=>
        intro F2 H2 e2
        cases b with
        | false=>rw [if_neg Bool.false_ne_true]; exact o1 _ F2 H2 (sk1.step e2)
        | true=>
          rw [if_pos rfl]
          refine ⟨fun σ' H'=>∃ F' S',StOk X.K F0 H0 F' H' σ' S'∧outS X.K F0 H0 xq Dn (whileD t g m S'),fun σ' H' w=>⟨m,Nat.lt_succ_self _,w⟩,F2,S1,sk1.step e2,?_⟩
          simp only at o1
          cases z2:g S1 with
          | none=>rw [z2] at o1; exact o1
          | some fl=>
            rw [z2] at o1
            cases fl with
            | next S2=>exact fun σ4 F4 H4 sk4=>⟨F4,S2,sk4,o1⟩
            | cont S2=>exact fun σ4 F4 H4 sk4=>⟨F4,S2,sk4,o1⟩
            | brk S2=>exact fun σ4 F4 H4 sk4=>o1 σ4 F4 H4 sk4
            | ret d=>exact o1
            | ex c=>exact o1
end
noncomputable def startD (N:List Str) (ds:List D):DS:=ds.map (fun d=>some (Slot.val d)) ++ List.replicate (N.length - ds.length) none
noncomputable def fin:Option Fl→M D
  | some (.next _)=>some (.ok .non)
  | some (.ret d)=>some (.ok d)
  | some (.ex c)=>some (.error c)
  | _=>none
theorem start_ok {K:PySem.W.Frag} {F H:Hp} {N:List Str} {ds:List D} {vs:List V} (fh:Same F H) (r:RepL K F ds vs):StOk K F H F H (L2.start N vs) (startD N ds):=by
  have hl:=r.length
  have cut:∀ (i:Nat) (sl:Slot),(startD N ds)[i]?=some (some sl)→∃ d,ds[i]?=some d∧sl=.val d:=fun i sl h=>by
    unfold startD at h
    by_cases hi:i < ds.length
    · rw [List.getElem?_append_left (by simpa using hi),List.getElem?_map] at h
      cases z:ds[i]? with
      | none=>rw [z] at h; cases h
      | some d=>
        rw [z] at h
        have:some (Slot.val d)=some sl:=Option.some.inj h
        exact ⟨d,rfl,(Option.some.inj this).symm⟩
    · rw [List.getElem?_append_right (by simpa using hi),List.getElem?_replicate] at h
      split at h <;> cases h
  refine ⟨Ext.refl fh,?_,fun i d h=>?_,fun i l h=>?_,fun i j l l' a ne h1 h2 h3 h4=>?_,fun i ks l h=>?_,fun i j ks ks' l l' a ne h1 h2 h3 h4=>?_⟩
  · unfold startD L2.start
    rw [List.length_append,List.length_append,List.length_map,List.length_map,List.length_replicate,List.length_replicate,hl]
  · obtain ⟨d',e,q⟩:=cut i _ h
    injection q with q; subst q
    obtain ⟨v,e2,r2⟩:=r.get e
    refine ⟨v,?_,r2⟩
    unfold L2.start
    have hi:i < vs.length:=by
      rcases Nat.lt_or_ge i vs.length with h1 | h1
      · exact h1
      · rw [List.getElem?_eq_none h1] at e2; cases e2
    rw [List.getElem?_append_left (by simpa using hi),List.getElem?_map,e2]
    rfl
  · obtain ⟨d',e,q⟩:=cut i _ h
    cases q
  · obtain ⟨d',e,q⟩:=cut i _ h1
    cases q
  · obtain ⟨d',e,q⟩:=cut i _ h
    cases q
  · obtain ⟨d',e,q⟩:=cut i _ h1
    cases q
theorem spM_len {K:PySem.W.Frag} {n:Nat} {m:List D→M D} {vs:List V} {H:Hp} {Q:VK} {E:XK} (h:spM K n m vs H Q E):vs.length=n:=by
  obtain ⟨F,ds,_,r,l,_⟩:=h
  rw [← r.length]; exact l
noncomputable abbrev noX:Addr→Hp→Prop:=fun _ _=>False
theorem Fun.d {P:Program} {w:World} {K:PySem.W.Frag} {mg:Str→Option Value} {base:Heap} {x qual:Str} {st:Stmt} {f:Addr} {fd:FuncData} {N ps:List Str} {k:Nat} {m:List D→M D} {g:DS→Option Fl} (F:Fun K x qual st f fd) (Sc:FnScope N ps (defScope st))
    (hb:∀ (cdv:Value) (A:Around) (outer:List Env) (s:Shared) (H:Hp) (E:XK),Room k (A.deeper (envOfC qual (defScope st) s.heap.objs.size f cdv))→∀ F0 H0:Hp,DSs (cxOf CX0 P w K mg base N qual (defScope st) f cdv A outer s H E).nox F0 H0 noX (defBody st) g)
    (hg:∀ ds r,ds.length=ps.length→m ds=some r→∃ d,r=.ok d∧fin (g (startD N ds))=some (.ok d)):FnOk P w K mg base CX0 (k + 1) f fd ps (spM K ps.length m):=by
  refine F.ok Sc (fun vs H Q E h=>spM_len h) fun cdv A outer s H vs Q E hr h=>?_
  obtain ⟨F1,ds,fh,r,l,o⟩:=h
  refine ⟨_,(hb cdv A outer s H E hr F1 H).h,F1,startD N ds,start_ok fh r,?_⟩
  cases z:m ds with
  | none=>rw [z] at o; exact False.elim o
  | some y=>
    rw [z] at o
    obtain ⟨d,rfl,e⟩:=hg ds y l z
    cases q:g (startD N ds) with
    | none=>rw [q] at e; cases e
    | some fl=>
      rw [q] at e
      cases fl with
      | next S=>
        have ed:D.non=d:=by injection e with e; injection e
        subst ed
        exact fun σ' F' H' sk=>o .non F' H' sk.ext rfl
      | ret d'=>
        have ed:d'=d:=by injection e with e; injection e
        subst ed
        exact fun v F' H' ex rp=>o v F' H' ex rp
      | brk S=>cases e
      | cont S=>cases e
      | ex c=>injection e with e; cases e
theorem Fun.fnd {P:Program} {w:World} {K:PySem.W.Frag} {mg:Str→Option Value} {base:Heap} {CX:CXT} {k:Nat} {x:Str} {f:Addr} {fd:FuncData} {ps:List Str} {m:List D→M D} (hm:mg x=some (.ref f)) (hk:PySem.W.keepIn K (.ref f)=true) (hb:Binds K fd ps []) (G:FnOk P w K mg base CX k f fd ps (spM K ps.length m)) :
    FnD P w K mg base CX k x ps.length m:=⟨f,fd,ps,hm,hk,hb,rfl,G⟩
theorem FnD.mono {P:Program} {w:World} {K:PySem.W.Frag} {mg:Str→Option Value} {base:Heap} {CX:CXT} {j k n:Nat} {x:Str} {m:List D→M D} (h:FnD P w K mg base CX j x n m) (le:j ≤ k):FnD P w K mg base CX k x n m:=
  let ⟨f,fd,ps,h1,h2,h3,h4,h5⟩:=h.ex; ⟨f,fd,ps,h1,h2,h3,h4,h5.mono le⟩
end PF
set_option Elab.async false
set_option linter.all false
set_option maxRecDepth 100000
set_option maxHeartbeats 4000000
namespace PF
open PySem PySem.Spec L2
open PyProof.Rows hiding St
noncomputable def cloOf (cells:List (Str × Addr)):List (Str × NameKind)→List (Str × Addr)→List (Str × Addr)
  | [],acc=>acc
  | (n,k) :: r,acc=>if (k == NameKind.free)=true then (match cells.lookup n with
    | some c=>cloOf cells r ((n,c) :: acc)
    | none=>cloOf cells r acc) else cloOf cells r acc
theorem cloOf_mem (cells:List (Str × Addr)):∀ (ns:List (Str × NameKind)) (acc:List (Str × Addr)),(∀ p ∈ acc,cells.lookup p.1=some p.2)→∀ p ∈ cloOf cells ns acc,cells.lookup p.1=some p.2
  | [],acc,h=>h
  | (n,k) :: r,acc,h=>by
    unfold cloOf
    split
    · split
      · rename_i c e
        exact cloOf_mem cells r _ fun p hp=>by
          rcases List.mem_cons.mp hp with rfl | hp
          · exact e
          · exact h p hp
      · exact cloOf_mem cells r acc h
    · exact cloOf_mem cells r acc h
theorem cloOf_acc (cells:List (Str × Addr)):∀ (ns:List (Str × NameKind)) (acc:List (Str × Addr)) (p:Str × Addr),p ∈ acc→p ∈ cloOf cells ns acc
  | [],acc,p,h=>h
  | (n,k) :: r,acc,p,h=>by
    unfold cloOf
    split
    · split
      · exact cloOf_acc cells r _ p (List.mem_cons_of_mem _ h)
      · exact cloOf_acc cells r acc p h
    · exact cloOf_acc cells r acc p h
theorem cloOf_has (cells:List (Str × Addr)):∀ (ns:List (Str × NameKind)) (acc:List (Str × Addr)) (x:Str) (c:Addr),(x,NameKind.free) ∈ ns→cells.lookup x=some c→(x,c) ∈ cloOf cells ns acc
  | [],_,_,_,h,_=>by simp at h
  | (n,k) :: r,acc,x,c,h,e=>by
    unfold cloOf
    rcases List.mem_cons.mp h with q | q
    · cases q
      rw [if_pos (by decide),e]
      exact cloOf_acc cells r _ _ List.mem_cons_self
    · split
      · split
        · exact cloOf_has cells r _ x c q e
        · exact cloOf_has cells r _ x c q e
      · exact cloOf_has cells r _ x c q e
theorem closureFor_eq {scope:Scope} {env:Env} (h:∀ x ∈ scope.names,x.2=.free→∃ c,env.cells.lookup x.1=some c):closureFor scope env=pure (cloOf env.cells scope.names []):=by
  have go:∀ (ns:List (Str × NameKind)) (acc:List (Str × Addr)),(∀ x ∈ ns,x.2=.free→∃ c,env.cells.lookup x.1=some c)→
      (forIn ns acc (fun (x:Str × NameKind) (r:List (Str × Addr))=>(do
        if (x.2 == NameKind.free)=true then
          let c ← cellOf env x.1
          pure (ForInStep.yield ((x.1,c) :: r))
        else pure (ForInStep.yield r):Sem (ForInStep (List (Str × Addr))))))=(pure (cloOf env.cells ns acc):Sem (List (Str × Addr))):=by
    intro ns
    induction ns with
    | nil=>intro acc _; rfl
    | cons x r ih=>
      intro acc hx
      obtain ⟨n,k⟩:=x
      rw [List.forIn_cons]
      unfold cloOf
      by_cases hk:(k == NameKind.free)=true
      · obtain ⟨c,e⟩:=hx (n,k) List.mem_cons_self (by simpa using hk)
        have e':env.cells.lookup n=some c:=e
        simp only [hk,if_true,e',cellOf,pure_bind]
        exact ih _ fun y hy=>hx y (List.mem_cons_of_mem _ hy)
      · simp only [hk,if_false,pure_bind]
        exact ih _ fun y hy=>hx y (List.mem_cons_of_mem _ hy)
  have:=go scope.names [] h
  unfold closureFor
  simp only [bind_pure]
  exact this
theorem lookup_of_mem {cells l:List (Str × Addr)} (h:∀ p ∈ l,cells.lookup p.1=some p.2):∀ {x:Str} {c:Addr},(x,c) ∈ l→l.lookup x=some c:=by
  induction l with
  | nil=>intro x c q; simp at q
  | cons p l ih=>
    intro x c q
    obtain ⟨n,d⟩:=p
    rw [List.lookup_cons]
    by_cases e:(x == n)=true
    · rw [e]
      have en:x=n:=by simpa using e
      subst en
      have h1:cells.lookup x=some d:=h (x,d) List.mem_cons_self
      have h2:=h (x,c) q
      rw [h1] at h2
      exact h2
    · have e':(x == n)=false:=by simpa using e
      rw [e']
      rcases List.mem_cons.mp q with z | z
      · injection z with z1 z2
        exact absurd (by simp [z1]) e
      · exact ih (fun p hp=>h p (List.mem_cons_of_mem _ hp)) z
noncomputable def CapsOk (X:Cx) (scope:Scope):List Nat→List Str→Prop
  | [],[]=>True
  | j :: js,x :: xs=>X.N[j]?=some x∧(X.env.kindOf x=some .cell∨X.env.kindOf x=some .free)∧(x,NameKind.free) ∈ scope.names∧((relabel scope X.env).names.lookup x=some .cell∨(relabel scope X.env).names.lookup x=some .free)∧CapsOk X scope js xs
  | _,_=>False
noncomputable def compX (X:Cx) (N':List Str) (scope:Scope) (C:Addr) (s:Shared) (H:Hp) (ex:List Addr):Cx:=
  { X with N:=N',s₀:=s,H₀:=H,env:=compEnvC scope (cloOf X.env.cells scope.names []) C X.env,outer:=X.stack,stack:=X.stack,ex:=ex,fn:=fun _=>false,pn:=[],xe:=fun _ _=>False }
section
variable {prog:Program} {w:World} {A:Around} {R:Result→Shared→Prop} {s:Shared}
theorem compLoop_go {elt target iter:Expr} {ifs:List Expr} {scope:Scope} {pos:Pos} {it acc:Value} {env:Env} (I:Nat→Shared→Prop)
    (turn:∀ n s,I n s→wpAny (model prog w) A (pyNext it) (fun r s₁=>match r with
      | none=>R (.ok .next) s₁
      | some v=>wpAny (model prog w) A (letOwnedTupleGo target it v) (fun _ s₁'=>wpAny (model prog w) A (assign target env v) (fun _ s₂=>
          wpAny (model prog w) A (forIn ifs true fun c r=>if r=true then do let ok ← isTrue c env (eval c env); pure (ForInStep.yield ok) else pure (ForInStep.yield r)) (fun ok s₃=>
            if ok=true then wpAny (model prog w) A (eval elt env) (fun x s₄=>
              wpAny (model prog w) A (call (.builtin "list.append") [acc,x]) (fun _ s₅=>∃ m,m < n∧I m s₅) (fun _ _=>False) s₄) (fun _ _=>False) s₃
            else ∃ m,m < n∧I m s₃) (fun _ _=>False) s₂) (fun _ _=>False) s₁') (fun _ _=>False) s₁) (fun _ _=>False) s)
    (n:Nat) (h:I n s):codeAny (model prog w) A (.compLoop (.ListComp elt [⟨target,iter,ifs,0⟩] scope pos) 0 it acc env) R s:=by
  refine codeAny_loop rfl I (fun n s hI=>?_) n h
  show wpAny _ A ((compTurn (.ListComp elt [⟨target,iter,ifs,0⟩] scope pos) 0 it acc env).onRaise (fun x=>do noteFrame x env; theTreesLotGoes x)) _ _ s
  refine wpAny_noted ?_
  rw [compTurn_list]
  refine wpAny_bind (wpAny_standAt (wpAny_bind (wpAny_mono (turn n s hI) (fun r s₁ h₁=>?_) fun _ _ h'=>h'.elim)))
  cases r with
  | none=>exact wpAny_pure h₁
  | some v=>
    refine wpAny_bind (wpAny_mono h₁ (fun _ s₁' h₁'=>wpAny_bind (wpAny_mono h₁' (fun _ s₂ h₂=>wpAny_bind (wpAny_mono h₂ (fun ok s₃ h₃=>?_) fun _ _ h'=>h'.elim)) fun _ _ h'=>h'.elim)) fun _ _ h'=>h'.elim)
    cases ok with
    | false=>exact wpAny_pure ⟨rfl,h₃⟩
    | true=>
      exact wpAny_bind (wpAny_bind (wpAny_mono h₃ (fun x s₄ h₄=>wpAny_bind (wpAny_mono h₄ (fun _ s₅ h₅=>wpAny_pure (wpAny_pure ⟨rfl,h₅⟩)) fun _ _ h'=>h'.elim)) fun _ _ h'=>h'.elim))
end
noncomputable def cap {α:Type} (nt:Nat) (caps:List Nat) (l:List (Option α)):List (Option α):=List.replicate nt none ++ caps.map fun j=>(l[j]?).join
theorem cap_get {α:Type} {nt:Nat} {caps:List Nat} {l:List (Option α)} {i:Nat} {v:α} (h:(cap nt caps l)[i]?=some (some v)):∃ k j,i=nt + k∧caps[k]?=some j∧l[j]?=some (some v):=by
  unfold cap at h
  by_cases hi:i < nt
  · rw [List.getElem?_append_left (by simpa using hi),List.getElem?_replicate] at h
    split at h <;> cases h
  · rw [List.getElem?_append_right (by simpa using hi),List.length_replicate,List.getElem?_map] at h
    cases z:caps[i - nt]? with
    | none=>rw [z] at h; cases h
    | some j=>
      rw [z] at h
      have h':(l[j]?).join=some v:=Option.some.inj h
      refine ⟨i - nt,j,by (clear h' z h; omega),z,?_⟩
      cases y:l[j]? with
      | none=>rw [y] at h'; cases h'
      | some o=>rw [y] at h'; cases o with
        | none=>cases h'
        | some u=>
          have:u=v:=Option.some.inj h'
          rw [this]
theorem CapsOk.get {X:Cx} {scope:Scope}:∀ {caps:List Nat} {cn:List Str} {k j:Nat},CapsOk X scope caps cn→caps[k]?=some j→
    ∃ x,cn[k]?=some x∧X.N[j]?=some x∧(X.env.kindOf x=some .cell∨X.env.kindOf x=some .free)∧(x,NameKind.free) ∈ scope.names∧((relabel scope X.env).names.lookup x=some .cell∨(relabel scope X.env).names.lookup x=some .free)
  | [],[],_,_,_,e=>by simp at e
  | [],_ :: _,_,_,h,_=>h.elim
  | _ :: _,[],_,_,h,_=>h.elim
  | j :: js,x :: xs,0,i,h,e=>by
    obtain ⟨h1,h2,h3,h4,_⟩:=h
    simp at e; subst e
    exact ⟨x,rfl,h1,h2,h3,h4⟩
  | j :: js,x :: xs,k + 1,i,h,e=>by
    obtain ⟨_,_,_,_,h⟩:=h
    obtain ⟨y,q⟩:=CapsOk.get h (k:=k) (by simpa using e)
    exact ⟨y,by simpa using q.1,q.2⟩
theorem CapsOk.length {X:Cx} {scope:Scope}:∀ {caps:List Nat} {cn:List Str},CapsOk X scope caps cn→caps.length=cn.length
  | [],[],_=>rfl
  | [],_ :: _,h=>h.elim
  | _ :: _,[],h=>h.elim
  | j :: js,x :: xs,h=>by simp [CapsOk.length h.2.2.2.2]
section
variable {X:Cx} {pins:List (Addr × Obj)} {σ:St} {H:Hp} {s:Shared} {scope:Scope} {N':List Str} {ex:List Addr}
theorem clo_cells {x:Str} {c:Addr} (h:(cloOf X.env.cells scope.names []).lookup x=some c):X.env.cells.lookup x=some c:=
  cloOf_mem X.env.cells scope.names [] (fun p hp=>by simp at hp) (x,c) (PySem.mem_of_lookup h)
theorem clo_has {x:Str} {c:Addr} (h:(x,NameKind.free) ∈ scope.names) (e:X.env.cells.lookup x=some c):(cloOf X.env.cells scope.names []).lookup x=some c:=
  lookup_of_mem (cells:=X.env.cells) (cloOf_mem X.env.cells scope.names [] (fun p hp=>by simp at hp)) (cloOf_has X.env.cells scope.names [] x c h e)
theorem compOk (I:Inv X pins σ H s) (hk:scope.kind=.function) (hcell:∀ y ∈ scope.names,y.2 ≠ .cell) (hfree:∀ y ∈ scope.names,y.2=.free→X.env.kindOf y.1=some .cell∨X.env.kindOf y.1=some .free)
    (hfp:∀ b ∈ ex,FpOk X pins H b) (hob:∀ b ∈ ex,∃ o,s.heap.get? b=some o):(compX X N' scope s.heap.objs.size s H ex).Ok where
  mod:=I.ok.mod
  kind:=hk
  glob:=I.ok.glob
  blt:=I.ok.blt
  above:=Nat.le_refl _
  inj:=fun x y c h1 h2=>I.ok.inj x y c (clo_cells h1) (clo_cells h2)
  has:=fun x hx=>by
    have hx':(relabel scope X.env).names.lookup x=some .cell∨(relabel scope X.env).names.lookup x=some .free:=hx
    have key:(x,NameKind.free) ∈ scope.names:=by
      have back:∀ k',(k'=NameKind.cell∨k'=NameKind.free)→(relabel scope X.env).names.lookup x=some k'→(x,NameKind.free) ∈ scope.names:=fun k' hk' e=>by
        have m:=PySem.mem_of_lookup e
        unfold relabel at m
        obtain ⟨⟨n,k⟩,hm,e2⟩:=List.mem_map.mp m
        by_cases c:(k == NameKind.free && X.env.scope.kind == .function && X.env.kindOf n == some .cell)=true
        · simp only [c,if_true] at e2
          injection e2 with e3 e4
          subst e3
          rw [Bool.and_eq_true,Bool.and_eq_true] at c
          have:k=NameKind.free:=by simpa using c.1.1
          rw [← this]; exact hm
        · simp only [c,if_false] at e2
          injection e2 with e3 e4
          subst e3 e4
          rcases hk' with z | z
          · exact absurd z (hcell _ hm)
          · rw [← z]; exact hm
      rcases hx' with e | e
      · exact back _ (.inl rfl) e
      · exact back _ (.inr rfl) e
    obtain ⟨c,e⟩:=I.ok.has x (hfree _ key rfl)
    exact ⟨c,clo_has key e⟩
  cab:=fun x c h=>by cases (show false=true from h)
  hd:=I.ok.hd
  frames:=I.ok.frames
  stk:=.inl rfl
  exf:=fun b hb=>by
    obtain ⟨o,e⟩:=hob b hb
    exact ⟨Nat.ne_of_lt (Heap.lt_size e),fun x c h=>(hfp b hb).2.2.2.2.1 x c (clo_cells h)⟩
  bs:=I.bs
  bsz:=Nat.le_trans I.ok.bsz I.sz
  noex:=fun b o e hb=>by
    rcases (hfp b hb).2.2.2.1 with z | z
    · exact I.ok.noex b o e z
    · exact absurd (Nat.lt_of_lt_of_le (Heap.lt_size (I.ok.bs b o e).1) z) (Nat.lt_irrefl _)
  exfs:=fun b hb z=>by
    rcases List.mem_cons.mp (I.stkSub b z) with e | e
    · exact (hfp b hb).2.1 e
    · exact (hfp b hb).2.2.1 e
  funs:=I.stack
  frf:=I.stkFree
theorem compInv {nt:Nat} {caps:List Nat} {tn cn:List Str} {h':Heap} {m:Str→Option Value} {tk:Nat} (I:Inv X pins σ H s) (hk:scope.kind=.function) (hcell:∀ y ∈ scope.names,y.2 ≠ .cell)
    (hfree:∀ y ∈ scope.names,y.2=.free→X.env.kindOf y.1=some .cell∨X.env.kindOf y.1=some .free) (hfp:∀ b ∈ ex,FpOk X pins H b) (hob:∀ b ∈ ex,∃ o,s.heap.get? b=some o) (htn:tn.length=nt) (hcap:CapsOk X scope caps cn)
    (hn:h'.Ns s.heap.objs.size m) (k:∀ b o,s.heap.get? b=some o→h'.get? b=some o) :
    Inv (compX X (tn ++ cn) scope s.heap.objs.size s H ex) [] (cap nt caps σ) H { s with heap:=h',toks:=tk }:=by
  refine ⟨compOk I hk hcell hfree hfp hob,rfl,I.bare,Un.kept k,⟨m,hn,fun i x v h1 h2 h3=>?_⟩,fun x c h=>?_,I.hok.fresh (Nat.le_refl _),fun x c h=>I.freeC x c (clo_cells h),fun p hp=>absurd (show p ∈ ([]:List (Addr × Obj)) from hp) (by simp),I.hok.kept k,?_⟩
  · obtain ⟨j,i',e,hc,hv⟩:=cap_get h2
    obtain ⟨y,q1,q2,q3,q4,q5⟩:=hcap.get hc
    have ex':y=x:=by
      have h1':(tn ++ cn)[i]?=some x:=h1
      rw [List.getElem?_append_right (by (clear h1' q5 q4 q3 q2 q1 hv hc h3 h2 h1 k hn hcap hob hfp hfree hcell hk I; omega)),e,htn,Nat.add_sub_cancel_left,q1] at h1'
      exact Option.some.inj h1'
    subst ex'
    obtain ⟨m0,_,hl⟩:=I.loc
    have vis:Vis X.env.scope y:=by
      rcases q3 with z | z
      · exact .inr (.inl z)
      · exact .inr (.inr z)
    obtain ⟨u,r,l⟩:=hl i' y v q2 hv vis
    refine ⟨u,r,.inr ⟨q5,?_⟩⟩
    rcases l with ⟨z,_⟩ | ⟨_,c,e1,o,e2,e3⟩
    · rcases q3 with y1 | y1
      · rw [z] at y1; cases y1
      · rw [z] at y1; cases y1
    · exact ⟨c,clo_has q4 e1,o,k _ _ e2,e3⟩
  · obtain ⟨v,o,e1,e2⟩:=I.cell x c (clo_cells h)
    exact ⟨v,o,k _ _ e1,e2⟩
  · show (cap nt caps σ).length=(tn ++ cn).length
    unfold cap
    rw [List.length_append,List.length_append,List.length_replicate,List.length_map,htn,hcap.length]
end
noncomputable def compD (set:D→DS→Option DS) (fc:DS→M Bool) (fe:DS→M VR):List D→DS→Option (List D)
  | [],_=>some []
  | d :: r,S=>match set d S with
    | none=>none
    | some S1=>match fc S1 with
      | some (.ok true)=>match fe S1 with
        | some (.ok (.ok d'))=>(compD set fc fe r S1).map (d' :: ·)
        | _=>none
      | some (.ok false)=>compD set fc fe r S1
      | _=>none
noncomputable def dComp (nt:Nat) (caps:List Nat) (fi:DS→M (List D)) (set:D→DS→Option DS) (fc:DS→M Bool) (fe:DS→M VR):DS→M (List D):=fun S=>mb (fi S) fun ds=>if ds.length ≤ big then (match compD set fc fe ds (cap nt caps S) with
  | some l=>some (.ok l)
  | none=>none) else none
structure DIfs (X:Cx) (F0 H0:Hp) (ifs:List Expr) (fc:DS→M Bool):Prop where
  mk ::
  h:∀ (pins:List (Addr × Obj)) (s:Shared) (σ:St) (H:Hp) (Q:Bool→Hp→Prop),Inv X pins σ H s→tT X.K F0 H0 noX fc σ H Q→
    wpAny (model X.prog X.w) X.A (forIn ifs true fun c r=>if r=true then do let ok ← isTrue c X.env (eval c X.env); pure (ForInStep.yield ok) else pure (ForInStep.yield r)) (TP X pins σ Q) X.xe s
theorem difs_one {X:Cx} {F0 H0:Hp} {c:Expr} {fc:DS→M Bool} (h:DT X F0 H0 noX c fc):DIfs X F0 H0 [c] fc:=.mk fun pins s σ H Q I q=>wpAny_tests_one (h.h pins s σ H Q I q)
theorem capSt {K:PySem.W.Frag} {F0 H0 F H:Hp} {σ:St} {S:DS} {nt:Nat} {caps:List Nat} (hnd:caps.Nodup) (s:StOk K F0 H0 F H σ S):StOk K F0 H0 F H (cap nt caps σ) (cap nt caps S):=by
  have up:∀ {k j:Nat} {v:V},caps[k]?=some j→σ[j]?=some (some v)→(cap nt caps σ)[nt + k]?=some (some v):=fun {k j v} h1 h2=>by
    unfold cap
    rw [List.getElem?_append_right (by simp),List.length_replicate,Nat.add_sub_cancel_left,List.getElem?_map,h1]
    show some ((σ[j]?).join)=_
    rw [h2]; rfl
  refine ⟨s.ext,?_,fun i d h=>?_,fun i l h=>?_,fun i i' l l' a ne h1 h2 h3 h4=>?_,fun i ks l h=>?_,fun i i' ks ks' l l' a ne h1 h2 h3 h4=>?_⟩
  · unfold cap
    rw [List.length_append,List.length_append,List.length_map,List.length_map,List.length_replicate,List.length_replicate]
  · obtain ⟨k,j,rfl,hc,hv⟩:=cap_get h
    obtain ⟨v,e,r⟩:=s.val j d hv
    exact ⟨v,up hc e,r⟩
  · obtain ⟨k,j,rfl,hc,hv⟩:=cap_get h
    obtain ⟨a,vs,e,r⟩:=s.own j l hv
    exact ⟨a,vs,up hc e,r⟩
  · obtain ⟨k,j,rfl,hc,hv⟩:=cap_get h1
    obtain ⟨k',j',rfl,hc',hv'⟩:=cap_get h2
    obtain ⟨k2,j2,e2,hc2,hv2⟩:=cap_get h3
    obtain ⟨k3,j3,e3,hc3,hv3⟩:=cap_get h4
    have:k2=k:=by (clear hv3 hc3 e3 hv2 hc2 hv' hc' ne h4 h2 hv hc h3 h1 up s hnd; omega)
    subst this
    have:k3=k':=by (clear e2 ne hc h3 h1 hv3 hc3 hv2 hc2 hv' hc' h4 h2 hv up s hnd; omega)
    subst this
    rw [hc] at hc2; cases hc2
    rw [hc'] at hc3; cases hc3
    have nj:j ≠ j':=fun e=>by
      subst e
      obtain ⟨p1,p2⟩:=List.getElem?_eq_some_iff.mp hc
      obtain ⟨p3,p4⟩:=List.getElem?_eq_some_iff.mp hc'
      exact ne (by rw [(List.getElem_inj hnd).mp (p2.trans p4.symm)])
    exact s.sep j j' l l' a nj hv hv' hv2 hv3
  · obtain ⟨k,j,rfl,hc,hv⟩:=cap_get h
    obtain ⟨a,vs,e,r⟩:=s.owd j ks l hv
    exact ⟨a,vs,up hc e,r⟩
  · obtain ⟨k,j,rfl,hc,hv⟩:=cap_get h1
    obtain ⟨k',j',rfl,hc',hv'⟩:=cap_get h2
    obtain ⟨k2,j2,e2,hc2,hv2⟩:=cap_get h3
    obtain ⟨k3,j3,e3,hc3,hv3⟩:=cap_get h4
    have:k2=k:=by (clear hv3 hc3 e3 hv2 hc2 hv' hc' ne h4 h2 hv hc h3 h1 up s hnd; omega)
    subst this
    have:k3=k':=by (clear e2 ne hc h3 h1 hv3 hc3 hv2 hc2 hv' hc' h4 h2 hv up s hnd; omega)
    subst this
    rw [hc] at hc2; cases hc2
    rw [hc'] at hc3; cases hc3
    have nj:j ≠ j':=fun e=>by
      subst e
      obtain ⟨p1,p2⟩:=List.getElem?_eq_some_iff.mp hc
      obtain ⟨p3,p4⟩:=List.getElem?_eq_some_iff.mp hc'
      exact ne (by rw [(List.getElem_inj hnd).mp (p2.trans p4.symm)])
    exact s.sepd j j' ks ks' l l' a nj hv hv' hv2 hv3
theorem comp_core (use:Option (Value→Sem Unit)) (RQ:Value→Shared→Prop) (G:Hp→Hp→M (List D)→Prop) (nt:Nat) (caps:List Nat) (tn cn:List Str) {X:Cx} {F0 H0:Hp} {xq:Addr→Hp→Prop} {elt tg iter:Expr} {ifs:List Expr} {scope:Scope} {pos npos:Pos} {fi:DS→M (List D)} {set:D→DS→Option DS} {fc:DS→M Bool} {fe:DS→M VR}
    (gs:∀ {F H F' H':Hp} {z:M (List D)},Ext F H F' H'→G F H z→G F' H' z) (gn:∀ F H,G F H none→False) (ge:∀ F H c,G F H (some (.error c))→∀ H',Same H H'→xq c H')
    (hcalm:X.calm=true) (hkind:scope.kind=.function) (hcell:∀ y ∈ scope.names,y.2 ≠ .cell) (hnames:∀ x ∈ scope.names,x.2=.local→scope.names.lookup x.1=some .local)
    (hfree:∀ y ∈ scope.names,y.2=.free→X.env.kindOf y.1=some .cell∨X.env.kindOf y.1=some .free) (htn:tn.length=nt) (hcap:CapsOk X scope caps cn) (hnd:caps.Nodup)
    (hi:DI X F0 H0 xq tg iter fi) (hg:∀ C s H ex F0 H0,DG (compX X (tn ++ cn) scope C s H ex) F0 H0 tg set) (hc:∀ C s H ex F0 H0,DIfs (compX X (tn ++ cn) scope C s H ex) F0 H0 ifs fc) (he:∀ C s H ex F0 H0,DE (compX X (tn ++ cn) scope C s H ex) F0 H0 noX elt fe)
    (hs:∀ x,foldedSetIterable iter X.env x=pure x) {pins:List (Addr × Obj)} {s:Shared} {σ:St} {H F:Hp} {S:DS} (I:Inv X pins σ H s) (sk:StOk X.K F0 H0 F H σ S) (o:G F H (dComp nt caps fi set fc fe S))
    (hfin:∀ (C Dd:Addr) (vs:List V) (F2 H2 F' H':Hp) (s5:Shared) (m5:Str→Option Value) (res:List D) (r:Flow),Ext F H F2 H2→Ext F2 H2 F' H'→H2 Dd=none→F' Dd=none→H' Dd=some (.lst vs)→RepL X.K F' res vs→G F2 H2 (some (.ok res))→Inv X pins σ H' s5→s5.heap.Ns C m5→
      H' C=none→C ≠ X.env.locals→C ∉ X.fs→X.s₀.heap.objs.size ≤ C→(∀ y c,X.env.cells.lookup y=some c→c ≠ C)→(∀ p ∈ X.pn ++ pins,p.1 ≠ C)→compPost (model X.prog X.w) X.A X.xe use RQ (.ref Dd) C (.ok r) s5) :
    wpAny (model X.prog X.w) X.A (comprehension (.ListComp elt [⟨tg,iter,ifs,0⟩] scope pos) scope X.env npos (newList []) false (eval iter X.env) use) RQ X.xe s:=by
  have hclos:closureFor scope X.env=pure (cloOf X.env.cells scope.names []):=closureFor_eq fun x hx e=>I.ok.has x.1 (hfree x hx e)
  refine wpAny_comprehension_free (use:=use) rfl hs hclos hkind hnames ?_
  -- the source
  refine thn (hi.h pins s σ H (fun J H1=>∃ F1 ds,Ext F H F1 H1∧ItOk X.K J F1 ds∧G F1 H1 (if ds.length ≤ big then (match compD set fc fe ds (cap nt caps S) with | some l=>some (.ok l) | none=>none) else none)) I ?_) fun v s1 h1=>thn h1 fun itv s2 h2=>Classical.byContradiction fun hN=>?_
  · refine ⟨F,S,sk,?_⟩
    unfold dComp at o
    cases z:fi S with
    | none=>rw [z] at o; exact False.elim (gn _ _ o)
    | some y=>
      rw [z] at o
      cases y with
      | error c=>exact ge _ _ _ o
      | ok ds=>exact fun J F1 H1 e it=>⟨F1,ds,e,it,gs e o⟩
  obtain ⟨it,fp,tn',J,H2,rfl,I2,T,st2,f2,F2,ds,e2,itk,o2⟩:=h2
  refine hN ?_
  clear hN
  by_cases hz:ds.length ≤ big
  · rw [if_pos hz] at o2
    cases cd:compD set fc fe ds (cap nt caps S) with
    | none=>rw [cd] at o2; exact False.elim (gn _ _ o2)
    | some res=>
      rw [cd] at o2
      have o3:G F2 H2 (some (.ok res)):=o2
      -- the list
      refine wpAny_newObj_type ?_ (by show (0:Nat) ≤ sizeLine; exact Nat.zero_le _)
      have hD:H2 s2.heap.objs.size=none:=I2.fresh
      have I3:=I2.lnew (ys:=[]) (its:=[]) (t':=s2.toks) .nil (Nat.zero_le _)
      generalize hD':s2.heap.objs.size=Dd at *
      generalize hs3:({ s2 with heap:=s2.heap.push { cls:=.type "list",data:=.seq ([]:List Value).toArray },toks:=s2.toks }:Shared)=s3 at *
      have k23:∀ b u,s2.heap.get? b=some u→s3.heap.get? b=some u:=fun b u z=>by rw [← hs3]; exact Heap.get?_push_of_some _ z
      have fpo:∀ b ∈ fp,∃ o,s2.heap.get? b=some o∧∀ v,o.data ≠ .cell v:=T.obj _ _ st2
      have nD:∀ b ∈ fp,b ≠ Dd:=fun b hb z=>by
        obtain ⟨o,e,_⟩:=fpo b hb
        have h1:b < s2.heap.objs.size:=Heap.lt_size e
        rw [hD',z] at h1
        exact Nat.lt_irrefl _ h1
      have f3:∀ b ∈ fp,FpOk X pins (upd H2 Dd (.lst [])) b:=fun b hb=>⟨by rw [upd_ne (nD b hb)]; exact (f2 b hb).1,(f2 b hb).2⟩
      have ob3:∀ b ∈ fp,∃ o,s3.heap.get? b=some o:=fun b hb=>let ⟨o,e,_⟩:=fpo b hb; ⟨o,k23 b o e⟩
      have st3:tn' 0 s3.heap:=T.keep _ _ _ st2 fun b hb o e=>k23 b o e
      -- the block
      refine wpAny_newFunctionEnv hcell (by intro y hy; simp at hy) (fun h4 hns hsb=>?_) hkind
      have k34:∀ b u,s3.heap.get? b=some u→h4.get? b=some u:=fun b u z=>hsb.extBut b u (Nat.ne_of_lt (Heap.lt_size z)) (Heap.get?_push_of_some _ z)
      have sk2:=(sk.step e2).base
      -- own lists are elder than the new one
      have elder:∀ (i:Nat) (l:List D) (a:Addr),(cap nt caps S)[i]?=some (some (Slot.own l))→(cap nt caps σ)[i]?=some (some (V.ref a))→a ≠ Dd:=fun i l a h1 h2 z=>by
        obtain ⟨a',vs,q1,_,_,q4,_⟩:=(capSt (nt:=nt) hnd sk2).own i l h1
        rw [h2] at q1
        have:a=a':=by simpa using q1
        rw [← this,z,hD] at q4; cases q4
      have elderd:∀ (i:Nat) (ks:List Key) (l:List D) (a:Addr),(cap nt caps S)[i]?=some (some (Slot.owd ks l))→(cap nt caps σ)[i]?=some (some (V.ref a))→a ≠ Dd:=fun i ks l a h1 h2 z=>by
        obtain ⟨a',vs,q1,_,_,q4,_⟩:=(capSt (nt:=nt) hnd sk2).owd i ks l h1
        rw [h2] at q1
        have:a=a':=by simpa using q1
        rw [← this,z,hD] at q4; cases q4
      have lift:∀ {F' H':Hp} {σ':St} {S':DS} {vs:List V},StOk X.K F2 H0 F' H' σ' S'→H' Dd=some (.lst vs)→F2 Dd=none→F' Dd=none→(∀ (i:Nat) (l:List D) (a:Addr),S'[i]?=some (some (Slot.own l))→σ'[i]?=some (some (V.ref a))→a ≠ Dd)→(∀ (i:Nat) (ks:List Key) (l:List D) (a:Addr),S'[i]?=some (some (Slot.owd ks l))→σ'[i]?=some (some (V.ref a))→a ≠ Dd)→StOk X.K F2 (upd H0 Dd (.lst vs)) F' H' σ' S':=
        fun {F' H' σ' S' vs} k h1 h2 h3 h4 h5=>⟨⟨k.ext.ff,fun b u z=>by
            by_cases eb:b=Dd
            · subst eb; rw [upd_same] at z; rw [h1]; exact z
            · rw [upd_ne eb] at z; exact k.ext.hh b u z,k.ext.fh,fun b xs z fb=>by
            by_cases eb:b=Dd
            · rw [eb]; exact h3
            · rw [upd_ne eb] at z; exact k.ext.new b xs z fb⟩,k.len,k.val,fun i l z=>by
            obtain ⟨a,ws,q1,q2,q3⟩:=k.own i l z
            exact ⟨a,ws,q1,by rw [upd_ne (h4 i l a z q1)]; exact q2,q3⟩,k.sep,fun i ks l z=>by
            obtain ⟨a,ws,q1,q2,q3⟩:=k.owd i ks l z
            exact ⟨a,ws,q1,by rw [upd_ne (h5 i ks l a z q1)]; exact q2,q3⟩,k.sepd⟩
      have hF2:F2 Dd=none:=e2.fh.free hD
      have e3:Ext F2 H2 F2 (upd H2 Dd (.lst [])):=ext_own e2.fh hD
      have sk3:StOk X.K F2 (upd H0 Dd (.lst [])) F2 (upd H2 Dd (.lst [])) (cap nt caps σ) (cap nt caps S):=lift (capSt hnd (sk2.step e3)) upd_same hF2 hF2 elder elderd
      have statX:∀ {H':Hp},(∀ b ∈ fp,H' b=none)→∀ b ∈ fp,FpOk (compX X (tn ++ cn) scope s3.heap.objs.size s3 (upd H2 Dd (.lst [])) fp) [] H' b:=fun hn b hb=>by
        have ok:=compOk (N':=tn ++ cn) I3 hkind hcell hfree f3 ob3
        exact ⟨hn b hb,(ok.exf b hb).1,ok.exfs b hb,.inl hb,(ok.exf b hb).2,fun p hp=>absurd (show p ∈ ([]:List (Addr × Obj)) from hp) (by simp)⟩
      have hok':∀ {H':Hp} {h h':Heap},HOk X.prog X.w H' h→H' s3.heap.objs.size=none→Heap.SameBut s3.heap.objs.size h h'→HOk X.prog X.w H' h':=fun {H' h h'} x hn sb a u e=>
        (x a u e).stay (fun b v hb q=>sb.extBut b v (by
          rcases hb with z | z
          · rw [z]; exact ne_of_none e hn
          · exact ne_of_none z hn) q) (fun _ q=>q) fun _ _ q=>q
      -- the loop
      have loop:∀ s4:Shared,s4={ s3 with heap:=h4,toks:=s3.toks + ([]:List (Str × Value)).length }→
          codeAny (model X.prog X.w) X.A (.compLoop (.ListComp elt [⟨tg,iter,ifs,0⟩] scope pos) 0 (.ref it) (.ref Dd) (compEnvC scope (cloOf X.env.cells scope.names []) s3.heap.objs.size X.env))
            (compPost (model X.prog X.w) X.A X.xe use RQ (.ref Dd) s3.heap.objs.size) s4:=by
        rintro s4 rfl
        have I4:=compInv (nt:=nt) (tk:=s3.toks + ([]:List (Str × Value)).length) I3 hkind hcell hfree f3 ob3 htn hcap hns k34
        refine compLoop_go (fun n s'=>∃ i σ' H' F' S' acc vs r,Inv (compX X (tn ++ cn) scope s3.heap.objs.size s3 (upd H2 Dd (.lst [])) fp) [] σ' H' s'∧tn' i s'.heap∧(∀ b ∈ fp,H' b=none)∧n=ds.length - i∧i ≤ ds.length∧
          StOk X.K F2 (upd H0 Dd (.lst vs)) F' H' σ' S'∧Ext F2 H2 F' H'∧F' Dd=none∧H' Dd=some (.lst vs)∧RepL X.K F' acc vs∧acc.length ≤ i∧compD set fc fe (ds.drop i) S'=some r∧acc ++ r=res) ?_ ds.length
          ⟨0,_,_,F2,_,[],[],res,I4,T.keep _ _ _ st3 (fun b hb o e=>k34 b o e),fun b hb=>(f3 b hb).1,by simp,Nat.zero_le _,sk3,e3,hF2,upd_same,rfl,Nat.le_refl _,by simpa using cd,rfl⟩
        refine fun n s' hh=>Classical.byContradiction fun hN=>?_
        obtain ⟨i,σ',H',F',S',acc,vs,r,I',st',fr',rfl,hile,sk',ex',hFD,hHD,ra,hal,cd',hres⟩:=hh
        refine hN ?_
        clear hN
        by_cases hlt:i < ds.length
        · have hd:ds.drop i=ds[i] :: ds.drop (i + 1):=List.drop_eq_getElem_cons hlt
          rw [hd] at cd'
          refine thn (T.item (compX X (tn ++ cn) scope s3.heap.objs.size s3 (upd H2 Dd (.lst [])) fp) rfl rfl rfl hcalm i [] s' σ' H' (fun _ _=>False) I' (statX fr') st' (itk.go i F' H' hlt ex'.ff ex'.fh)) fun rr s5 ⟨u,hr,h5⟩=>?_
          subst hr
          refine thn h5 fun _ s6 ⟨x,H6,I6,r6,y6,st6,fr6⟩=>?_
          obtain ⟨F6,e6,rp6⟩:=itk.yld i F' H' x H6 ex'.ff ex'.fh y6 ds[i] (List.getElem?_eq_getElem hlt)
          have I6':=I6.pinned (statX fr6) (T.obj _ _ st6)
          unfold compD at cd'
          cases z1:set ds[i] S' with
          | none=>rw [z1] at cd'; cases cd'
          | some S1=>
            rw [z1] at cd'
            simp only at cd'
            have gset:tG X.K F2 (upd H0 Dd (.lst vs)) set x σ' H6 (fun σ7 H7=>∃ F7,Ext F6 H6 F7 H7∧StOk X.K F2 (upd H0 Dd (.lst vs)) F7 H7 σ7 S1):=by
              refine ⟨F6,S',ds[i],sk'.step e6,rp6,?_⟩
              rw [z1]
              exact fun σ7 F7 H7 e7 k7=>⟨F7,e7,k7⟩
            refine thn ((hg _ _ _ _ F2 (upd H0 Dd (.lst vs))).h _ s6 σ' H6 x u _ I6' r6 gset) fun _ s7 ⟨σ7,H7,I7,F7,e7,k7⟩=>?_
            cases z2:fc S1 with
            | none=>rw [z2] at cd'; cases cd'
            | some y2=>
              rw [z2] at cd'
              cases y2 with
              | error c=>cases cd'
              | ok b=>
                have tc:tT X.K F2 (upd H0 Dd (.lst vs)) noX fc σ7 H7 (fun b' H8=>b'=b∧∃ F8,Ext F7 H7 F8 H8):=⟨F7,S1,k7,by rw [z2]; exact fun F8 H8 e8=>⟨rfl,F8,e8⟩⟩
                refine thn ((hc _ _ _ _ F2 (upd H0 Dd (.lst vs))).h _ s7 σ7 H7 _ I7 tc) fun b' s8 ⟨H8,I8,hb,F8,e8⟩=>?_
                subst hb
                have e68:=(e6.trans e7).trans e8
                have back:∀ {σ9:St} {H9 F9:Hp} {s9:Shared} {acc9 r9:List D} {vs9:List V},Inv (compX X (tn ++ cn) scope s3.heap.objs.size s3 (upd H2 Dd (.lst [])) fp) ([] ++ pinsAt fp s6.heap) σ9 H9 s9→StOk X.K F2 (upd H0 Dd (.lst vs9)) F9 H9 σ9 S1→Ext F2 H2 F9 H9→F9 Dd=none→H9 Dd=some (.lst vs9)→RepL X.K F9 acc9 vs9→acc9.length ≤ i + 1→
                    compD set fc fe (ds.drop (i + 1)) S1=some r9→acc9 ++ r9=res→∃ m,m < ds.length - i∧∃ i σ' H' F' S' acc vs r,Inv (compX X (tn ++ cn) scope s3.heap.objs.size s3 (upd H2 Dd (.lst [])) fp) [] σ' H' s9∧tn' i s9.heap∧(∀ b ∈ fp,H' b=none)∧m=ds.length - i∧i ≤ ds.length∧
                      StOk X.K F2 (upd H0 Dd (.lst vs)) F' H' σ' S'∧Ext F2 H2 F' H'∧F' Dd=none∧H' Dd=some (.lst vs)∧RepL X.K F' acc vs∧acc.length ≤ i∧compD set fc fe (ds.drop i) S'=some r∧acc ++ r=res:=fun {σ9 H9 F9 s9 acc9 r9 vs9} I9 k9 x1 x2 x3 x4 x5 x6 x7=>
                  ⟨ds.length - (i + 1),by (clear x7 x6 x5 x4 x3 x2 x1 k9 I9 e68 tc z2 cd' e8 I8 k7 e7 I7 gset z1 I6' rp6 e6 fr6 st6 y6 r6 I6 h5 hd hres hal ra hHD hFD ex' sk' hile fr' st' I' I4 hok' statX sk3 e3 hF2 lift elderd elder sk2 k34 hsb hns st3 ob3 f3 nD fpo k23 I3 hs3 hD hD' o3 cd o2 hz itk e2 f2 st2 T I2 h1 hclos hfin o sk I hs he hc hg hi hnd hcap htn hfree hnames hcell hkind hcalm ge gn gs; omega),i + 1,σ9,H9,F9,S1,acc9,vs9,r9,I9.unpinned,T.keep _ _ _ st6 (fun b hb o e=>(I9.pin (b,o) (List.mem_append_right _ (List.mem_append_right _ (mem_pinsAt hb e)))).1),(fun b hb=>by
                    obtain ⟨o,e,_⟩:=T.obj _ _ st6 b hb
                    exact (I9.pin (b,o) (List.mem_append_right _ (List.mem_append_right _ (mem_pinsAt hb e)))).2.1),rfl,hlt,k9,x1,x2,x3,x4,x5,x6,x7⟩
                cases b' with
                | false=>
                  rw [if_neg Bool.false_ne_true]
                  exact back I8 (k7.step e8) (ex'.trans e68) (e68.new _ (.lst _) hHD hFD) (e68.hh _ _ hHD) (ra.mono e68.ff) (Nat.le_succ_of_le hal) cd' hres
                | true=>
                  rw [if_pos rfl]
                  simp only at cd'
                  cases z3:fe S1 with
                  | none=>rw [z3] at cd'; cases cd'
                  | some y3=>
                    rw [z3] at cd'
                    cases y3 with
                    | error c=>cases cd'
                    | ok vr3=>
                      cases vr3 with
                      | bor l=>cases cd'
                      | bod ks l=>cases cd'
                      | ok d'=>
                        simp only at cd'
                        cases z4:compD set fc fe (ds.drop (i + 1)) S1 with
                        | none=>rw [z4] at cd'; cases cd'
                        | some r'=>
                          rw [z4] at cd'
                          have er:d' :: r'=r:=Option.some.inj cd'
                          subst er
                          have te:tE X.K F2 (upd H0 Dd (.lst vs)) noX fe σ7 H8 (fun v9 H9=>∃ F9,Ext F8 H8 F9 H9∧Rep X.K F9 d' v9):=⟨F8,S1,k7.step e8,by rw [z3]; exact fun v9 F9 H9 e9 q9=>⟨F9,e9,q9⟩⟩
                          refine thn ((he _ _ _ _ F2 (upd H0 Dd (.lst vs))).h _ s8 σ7 H8 _ I8 te) fun u9 s9 ⟨v9,H9,I9,rv9,F9,e9,q9⟩=>?_
                          have e69:=e68.trans e9
                          have hH9:=e69.hh _ _ hHD
                          have hF9:=e69.new _ (.lst _) hHD hFD
                          have ra9:=ra.mono e69.ff
                          have ex9:=ex'.trans e69
                          have k9:=(k7.step e8).step e9
                          refine thn (mt_append _ s9 σ7 H9 (.ref Dd) [v9] (.ref Dd) [u9] (fun _ H10=>H10=upd H9 Dd (.lst (vs ++ [v9]))) I9 rfl (.cons rv9 .nil) ⟨Dd,vs,v9,rfl,rfl,hH9,?_,rfl⟩) fun _ s10 ⟨x10,H10,I10,_,hH10⟩=>?_
                          · have:=ra.length
                            exact Nat.lt_of_lt_of_le (Nat.lt_of_le_of_lt (by rw [← this]; exact hal) hlt) (big_le hz)
                          · subst hH10
                            have kk:StOk X.K F2 (upd H0 Dd (.lst (vs ++ [v9]))) F9 (upd H9 Dd (.lst (vs ++ [v9]))) σ7 S1:=
                              ⟨⟨k9.ext.ff,fun b u z=>by
                                  by_cases eb:b=Dd
                                  · subst eb; rw [upd_same] at z ⊢; exact z
                                  · rw [upd_ne eb] at z ⊢; exact k9.ext.hh b u (by rw [upd_ne eb]; exact z),fun b u z=>by
                                  rw [upd_ne (ne_of_none z hF9)]; exact k9.ext.fh b u z,fun b xs z fb=>by
                                  by_cases eb:b=Dd
                                  · rw [eb]; exact hF9
                                  · rw [upd_ne eb] at z; exact k9.ext.new b xs (by rw [upd_ne eb]; exact z) fb⟩,k9.len,k9.val,fun j l z=>by
                                  obtain ⟨a,ws,q1,q2,q3,q4,q5⟩:=k9.own j l z
                                  have na:a ≠ Dd:=by rintro rfl; rw [upd_same] at q2; cases q2
                                  exact ⟨a,ws,q1,by rw [upd_ne na] at q2 ⊢; exact q2,q3,by rw [upd_ne na]; exact q4,q5⟩,k9.sep,fun j ks l z=>by
                                  obtain ⟨a,ws,q1,q2,q3,q4,q5⟩:=k9.owd j ks l z
                                  have na:a ≠ Dd:=by rintro rfl; rw [upd_same] at q2; cases q2
                                  exact ⟨a,ws,q1,by rw [upd_ne na] at q2 ⊢; exact q2,q3,by rw [upd_ne na]; exact q4,q5⟩,k9.sepd⟩
                            refine back I10 kk ⟨ex9.ff,fun b u z=>?_,fun b u z=>?_,ex9.new⟩ hF9 upd_same (ra9.append (.one q9)) (by rw [List.length_append,List.length_singleton]; (clear kk I10 k9 ex9 ra9 hF9 hH9 e69 q9 e9 rv9 I9 te cd' hres z4 z3 tc z2 back e68 e8 I8 k7 e7 I7 gset z1 I6' rp6 e6 fr6 st6 y6 r6 I6 h5 hd hlt ra hHD hFD ex' sk' hile fr' st' I' I4 hok' statX sk3 e3 hF2 lift elderd elder sk2 k34 hsb hns st3 ob3 f3 nD fpo k23 I3 hs3 hD hD' o3 cd o2 hz itk e2 f2 st2 T I2 h1 hclos hfin o sk I hs he hc hg hi hnd hcap htn hfree hnames hcell hkind hcalm ge gn gs; omega)) z4 (by rw [List.append_assoc]; exact hres)
                            · rw [upd_ne (ne_of_none z hD)]; exact ex9.hh b u z
                            · rw [upd_ne (ne_of_none z hF9)]; exact ex9.fh b u z
        · have ei:i=ds.length:=by (clear hres cd' hal ra hHD hFD ex' sk' fr' st' I' I4 hok' statX sk3 e3 hF2 lift elderd elder sk2 k34 hsb hns st3 ob3 f3 nD fpo k23 I3 hs3 hD hD' o3 cd o2 hz itk e2 f2 st2 T I2 h1 hclos hfin o sk I hs he hc hg hi hnd hcap htn hfree hnames hcell hkind hcalm ge gn gs; omega)
          subst ei
          rw [List.drop_length] at cd'
          have er:[]=r:=Option.some.inj cd'
          subst er
          rw [List.append_nil] at hres
          subst hres
          refine thn (T.done (compX X (tn ++ cn) scope s3.heap.objs.size s3 (upd H2 Dd (.lst [])) fp) rfl rfl rfl hcalm _ [] s' σ' H' (fun _ _=>False) I' (statX fr') st' (itk.stop _ F' H' (Nat.le_refl _) ex'.ff ex'.fh)) fun rr s5 ⟨hr,I5⟩=>?_
          subst hr
          obtain ⟨m5,hn5,_⟩:=I5.loc
          have U:=(Un.laid (fs:=frs X.stack) (ex:=fp) (o:=HO.lst []) k23 (Nat.le_of_eq hD') hD).trans I5.base
          have J:Inv X pins σ H' s5:=I2.call' (s':=s5) (ch:=fp) (by rw [I5.os]; show s3.os=s2.os; rw [← hs3]) ⟨U.keep,U.slot,U.free,U.there,U.tups,U.frzs,U.tbls⟩ I5.hok I5.bare fun b hb=>⟨(f2 b hb).2.2.2.1,(f2 b hb).2.1,(f2 b hb).2.2.2.2.1,(f2 b hb).2.2.2.2.2⟩
          have hC0:H' s3.heap.objs.size=none:=I5.free
          have szC:s2.heap.objs.size ≤ s3.heap.objs.size:=by
            rw [← hs3]
            show s2.heap.objs.size ≤ (s2.heap.push _).objs.size
            rw [Heap.size_push]; exact Nat.le_succ _
          have gtC:∀ b ob,s2.heap.get? b=some ob→b ≠ s3.heap.objs.size:=fun b ob e=>Nat.ne_of_lt (Nat.lt_of_lt_of_le (Heap.lt_size e) szC)
          have locC:s3.heap.objs.size ≠ X.env.locals:=fun z=>by
            have:=I2.lt
            rw [← z] at this
            exact absurd (Nat.lt_of_lt_of_le this szC) (Nat.lt_irrefl _)
          have fsC:s3.heap.objs.size ∉ X.fs:=I2.nofs szC
          have s0C:X.s₀.heap.objs.size ≤ s3.heap.objs.size:=Nat.le_trans I2.sz szC
          have cellC:∀ y c,X.env.cells.lookup y=some c→c ≠ s3.heap.objs.size:=fun y c e=>by
            obtain ⟨v,ob,hob,_⟩:=I2.cell y c e
            exact gtC c ob hob
          have pinC:∀ p ∈ X.pn ++ pins,p.1 ≠ s3.heap.objs.size:=fun p hp=>gtC p.1 p.2 (I2.pin p hp).1
          exact hfin s3.heap.objs.size Dd vs F2 H2 F' H' s5 m5 acc _ e2 ex' hD hFD hHD ra o3 J hn5 hC0 locC fsC s0C cellC pinC
      exact codeAny_compStart_list (loop _ rfl) (T.self _ 0 _ _ _ (T.keep _ _ _ st3 fun b hb o e=>k34 b o e) (loop _ rfl))
  · rw [if_neg hz] at o2; exact False.elim (gn _ _ o2)
theorem df_comp (nt:Nat) (caps:List Nat) (tn cn:List Str) {X:Cx} {F0 H0:Hp} {xq:Addr→Hp→Prop} {elt tg iter:Expr} {ifs:List Expr} {scope:Scope} {pos:Pos} {fi:DS→M (List D)} {set:D→DS→Option DS} {fc:DS→M Bool} {fe:DS→M VR}
    (hcalm:X.calm=true) (hkind:scope.kind=.function) (hcell:∀ y ∈ scope.names,y.2 ≠ .cell) (hnames:∀ x ∈ scope.names,x.2=.local→scope.names.lookup x.1=some .local)
    (hfree:∀ y ∈ scope.names,y.2=.free→X.env.kindOf y.1=some .cell∨X.env.kindOf y.1=some .free) (htn:tn.length=nt) (hcap:CapsOk X scope caps cn) (hnd:caps.Nodup)
    (hi:DI X F0 H0 xq tg iter fi) (hg:∀ C s H ex F0 H0,DG (compX X (tn ++ cn) scope C s H ex) F0 H0 tg set) (hc:∀ C s H ex F0 H0,DIfs (compX X (tn ++ cn) scope C s H ex) F0 H0 ifs fc) (he:∀ C s H ex F0 H0,DE (compX X (tn ++ cn) scope C s H ex) F0 H0 noX elt fe)
    (hs:∀ x,foldedSetIterable iter X.env x=pure x:=by intro _; rfl):DF X F0 H0 xq (.ListComp elt [⟨tg,iter,ifs,0⟩] scope pos) (dComp nt caps fi set fc fe):=.mk fun pins s σ H Q I q=>by
  obtain ⟨F,S,sk,o⟩:=q
  rw [eval_ListComp]
  refine comp_core none (EP X pins σ Q) (fun F H z=>outF X.K xq F H Q z) nt caps tn cn (fun e h=>h.step e) (fun _ _ h=>h) (fun _ _ _ h=>h) hcalm hkind hcell hnames hfree htn hcap hnd hi hg hc he hs I sk o ?_
  intro C Dd vs F2 H2 F' H' s5 m5 res r _ ex' hD hFD hHD ra o3 J hn hC0 locC fsC s0C cellC pinC
  exact ⟨m5,hn,fun h6 sb=>⟨.ref Dd,H',J.turned (t':=s5.toks) (it:=C) (fun b ob nb e=>sb.extBut b ob nb e) hC0 locC (.inr s0C) cellC pinC,rfl,o3 Dd vs F' H' ex' hD hFD hHD ra⟩⟩
end PF
set_option Elab.async false
set_option linter.all false
set_option maxRecDepth 100000
set_option maxHeartbeats 4000000
namespace PF
open PySem PySem.Spec PyProof.Rows
open AutoSeq1 (wpAny_loadPart')
theorem noFill_tuple_mul:fillsNumberSlot (.type "tuple") "mul" = pure false:=
  PySem.fillsNumberSlot_seq (id := "tuple.__mul__") (r:=some (.builtin "tuple.__rmul__")) PySem.F.slot_tuple_mul.lookup (by decide +kernel) PySem.F.slot_tuple_rmul.lookup (by decide +kernel)
theorem repeat_tuple:seqRepeat? (.type "tuple")=pure (some (.builtin "tuple.__mul__")):=by
  unfold seqRepeat?
  rw [PySem.seqSlot_of (T := "tuple") (name := "__mul__") (id := "tuple.__mul__") PySem.F.slot_tuple_mul.lookup (by decide +kernel),PySem.seqSlot_of (T := "tuple") (name := "__rmul__") (id := "tuple.__rmul__") PySem.F.slot_tuple_rmul.lookup (by decide +kernel)]
  rfl
theorem int_rmul_tuple (a:Int) (t:Tok) (l:Addr) (items:Array Value) (n:Nat) (dd:Option Addr) (sl:Array (Option Value)) :
    Meets (Builtin.«int.__rmul__» ⟨[.int a t,.ref l],[]⟩) (fun _ R s=>s.heap.get? l=some { cls:=.type "tuple",dict:=dd,data:=.seq items n,slots:=sl }∧R (.ok (.ret Value.notImplemented)) s):=
  .of_wp fun prog w A R s h=>by obtain ⟨hp,g,d,tk,os⟩:=s; obtain ⟨hl,h⟩:=h; wp_walk using wpAny_loadPart' hl; exact ⟨_,rfl,h⟩
theorem tuple_mul_same (l:Addr) (items:Array Value) (n:Nat) (dd:Option Addr) (sl:Array (Option Value)) (x:Int) (u:Tok) (hc0:(decide (x < -(2 ^ 63)) || decide (x ≥ 2 ^ 63))=false) (hc1:(items.isEmpty || x == 1)=true) :
    Meets (Builtin.«tuple.__mul__» ⟨[.ref l,.int x u],[]⟩) (fun _ R s=>s.heap.get? l=some { cls:=.type "tuple",dict:=dd,data:=.seq items n,slots:=sl }∧R (.ok (.ret (.ref l))) s):=
  .of_wp fun prog w A R s h=>by
    obtain ⟨hp,g,d,tk,os⟩:=s; obtain ⟨hl,h⟩:=h
    have f1:=AutoSeq1.idx_int
    wp_walk using wpAny_loadPart' hl
    refine wpAny_ite_false (by rw [hc0]; rfl) ?_
    wp_walk using wpAny_loadPart' hl
    exact ⟨_,rfl,h⟩
theorem tuple_mul_none (l:Addr) (items:Array Value) (n:Nat) (dd:Option Addr) (sl:Array (Option Value)) (x:Int) (u:Tok) (hc0:(decide (x < -(2 ^ 63)) || decide (x ≥ 2 ^ 63))=false) (hc1:¬ (items.isEmpty || x == 1)=true) (hc2:(decide (x ≤ 0) || items.isEmpty)=true) :
    Meets (Builtin.«tuple.__mul__» ⟨[.ref l,.int x u],[]⟩) (fun _ R s=>s.heap.get? l=some { cls:=.type "tuple",dict:=dd,data:=.seq items n,slots:=sl }∧R (.ok (.ret (.ref s.heap.objs.size))) { s with heap:=s.heap.push { cls:=Value.type "tuple",data:=Data.seq #[] } }):=
  .of_wp fun prog w A R s h=>by
    obtain ⟨hp,g,d,tk,os⟩:=s; obtain ⟨hl,h⟩:=h
    have f1:=AutoSeq1.idx_int
    wp_walk using wpAny_loadPart' hl
    refine wpAny_ite_false (by rw [hc0]; rfl) ?_
    wp_walk using wpAny_loadPart' hl
    exact ⟨_,rfl,h⟩
theorem tuple_mul_new (l:Addr) (items:Array Value) (n:Nat) (dd:Option Addr) (sl:Array (Option Value)) (x:Int) (u:Tok) (hc0:(decide (x < -(2 ^ 63)) || decide (x ≥ 2 ^ 63))=false) (hc1:¬ (items.isEmpty || x == 1)=true) (hc2:¬ (decide (x ≤ 0) || items.isEmpty)=true)
    (hc3:¬ (items.size * x > (2 ^ 63 - 1) / 8)) (hc4:¬ Builtin.Tuple.tupleTooMany (items.size * x)=true) (hsz:(List.foldl (fun x1 x2=>x1 ++ x2) #[] (List.replicate x.toNat items)).size ≤ sizeLine) :
    Meets (Builtin.«tuple.__mul__» ⟨[.ref l,.int x u],[]⟩) (fun _ R s=>s.heap.get? l=some { cls:=.type "tuple",dict:=dd,data:=.seq items n,slots:=sl }∧R (.ok (.ret (.ref s.heap.objs.size))) { s with heap:=s.heap.push { cls:=Value.type "tuple",data:=Data.seq (List.foldl (fun x1 x2=>x1 ++ x2) #[] (List.replicate x.toNat items)) } }):=
  .of_wp fun prog w A R s h=>by
    obtain ⟨hp,g,d,tk,os⟩:=s; obtain ⟨hl,h⟩:=h
    have f1:=AutoSeq1.idx_int
    wp_walk using wpAny_loadPart' hl
    refine wpAny_ite_false (by rw [hc0]; rfl) ?_
    wp_walk using wpAny_loadPart' hl
    refine wpAny_ite_false (decide_eq_false hc3) ?_
    wp_walk
    exact ⟨_,rfl,h⟩
section
variable {prog:Program} {w:World} {A:Around} {E:Value→Shared→Prop} {s:Shared}
theorem foldl_rep' (its:List Value):∀ (k:Nat) (acc:List Value),List.foldl (fun x1 x2=>x1 ++ x2) acc.toArray (List.replicate k its.toArray)=(acc ++ (List.replicate k its).flatten).toArray
  | 0,acc=>by simp
  | k + 1,acc=>by
    have e:acc.toArray ++ its.toArray=(acc ++ its).toArray:=by simp
    have e2:(acc ++ its) ++ (List.replicate k its).flatten=acc ++ (List.replicate (k + 1) its).flatten:=by
      rw [List.replicate_succ,List.flatten_cons,List.append_assoc]
    rw [← e2,← foldl_rep' its k (acc ++ its),← e,List.replicate_succ,List.foldl_cons]
theorem flatten_len {α:Type} (xs:List α) (k:Nat):(List.replicate k xs).flatten.length=k * xs.length:=by
  induction k with
  | zero=>simp
  | succ k ih=>rw [List.replicate_succ,List.flatten_cons,List.length_append,ih,Nat.succ_mul,Nat.add_comm]
theorem mul_tup {t:Addr} {vs:List Value} {k:Int} {u:Tok} {Q:Value→Shared→Prop} (ht:IsTup s.heap t vs.toArray) (h1:-(2 ^ 63) ≤ k) (h2:k < 2 ^ 63) (hz:vs.length * k.toNat ≤ sizeLine)
    (hs:(vs=[]∨k=1)→Q (.ref t) s) (hn:Q (.ref s.heap.objs.size) { s with heap:=s.heap.push { cls:=.type "tuple",data:=.seq (List.replicate k.toNat vs).flatten.toArray } }) :
    wpAny (model prog w) A (binaryOp .Mult (.ref t) (.int k u)) Q E s:=by
  obtain ⟨⟨cls,dd,data,sl⟩,ho,hc,n,hd⟩:=id ht
  simp only at hc hd
  subst hc hd
  have hc0:(decide (k < -(2 ^ 63)) || decide (k ≥ 2 ^ 63))=false:=by
    rw [decide_eq_false (by (clear ho hn hs hz h2 ht; omega)),decide_eq_false (by (clear ho hn hs hz h1 ht; omega))]; rfl
  refine wpAny_binaryOp_repeat_ref (T := "tuple") (U := "int") (by decide) ⟨_,ho,rfl⟩ (fun s'=>typeIs_int s' k u) noFill_tuple_mul F.fills_int_mul F.slot_int_rmul repeat_tuple F.slot_int_index.lookup
    (call_meets F.slot_int_rmul (typeIs_int s k u) F.entry_int_rmul (F.args_int_rmul_2 _ _) (int_rmul_tuple k u t vs.toArray n dd sl) ⟨ho,rfl,⟨_,ho,rfl⟩,?_⟩)
  by_cases hs1:(vs.toArray.isEmpty || k == 1)=true
  · refine call_meets F.slot_tuple_mul ⟨_,ho,rfl⟩ F.entry_tuple_mul (F.args_tuple_mul_2 _ _) (tuple_mul_same t vs.toArray n dd sl k u hc0 hs1) ⟨ho,hs ?_⟩
    rw [Bool.or_eq_true] at hs1
    rcases hs1 with e | e
    · exact .inl (by simpa using e)
    · exact .inr (by simpa using e)
  · by_cases hs2:(decide (k ≤ 0) || vs.toArray.isEmpty)=true
    · refine call_meets F.slot_tuple_mul ⟨_,ho,rfl⟩ F.entry_tuple_mul (F.args_tuple_mul_2 _ _) (tuple_mul_none t vs.toArray n dd sl k u hc0 hs1 hs2) ⟨ho,?_⟩
      have k0:k.toNat=0:=by
        rw [Bool.or_eq_true] at hs1 hs2
        rcases hs2 with e | e
        · have:=of_decide_eq_true e; (clear e hs1 hc0 ho hn hs hz h2 h1 ht; omega)
        · exact absurd (.inl e) hs1
      rw [k0] at hn
      exact hn
    · have hk:0 < k:=by
        rw [Bool.or_eq_true] at hs2
        exact Int.not_le.mp fun e=>hs2 (.inl (decide_eq_true e))
      have em:((vs.toArray.size:Nat):Int) * k=((vs.length * k.toNat:Nat):Int):=by
        rw [List.size_toArray,Int.natCast_mul,Int.toNat_of_nonneg (by (clear hs2 hs1 hc0 ho hn hs hz h2 h1 ht; omega))]
      have hcap:(sizeLine:Nat) ≤ (2 ^ 63 - 1) / 8:=by rw [sizeLine_eq]; decide
      have hf:List.foldl (fun x1 x2=>x1 ++ x2) #[] (List.replicate k.toNat vs.toArray)=(List.replicate k.toNat vs).flatten.toArray:=by
        have:=foldl_rep' vs k.toNat []
        rw [List.nil_append] at this
        exact this
      refine call_meets F.slot_tuple_mul ⟨_,ho,rfl⟩ F.entry_tuple_mul (F.args_tuple_mul_2 _ _) (tuple_mul_new t vs.toArray n dd sl k u hc0 hs1 hs2 ?_ ?_ ?_) ⟨ho,?_⟩
      · rw [em]; intro z; (clear hf em hk hs2 hs1 hc0 ho hn hs h2 h1 ht; omega)
      · rw [em]; unfold Builtin.Tuple.tupleTooMany; rw [decide_eq_false (by (clear hf hcap em hk hs2 hs1 hc0 ho hn hs h2 h1 ht; omega))]; simp
      · rw [hf,List.size_toArray,flatten_len,Nat.mul_comm]; exact hz
      · rw [hf]; exact hn
theorem tupIsExact_ {t:Addr} {items:Array Value} {Q:Bool→Shared→Prop} (ht:IsTup s.heap t items) (h:Q true s):wpAny (model prog w) A (Builtin.Tuple.tupleIsExact (.ref t)) Q E s:=by
  unfold Builtin.Tuple.tupleIsExact
  exact wpAny_bind (wpAny_typeOf ht.typeIs (wpAny_pure h))
theorem getItem_tuple_by {t sl:Addr} {items:Array Value} {lo step:Int} {n:Nat} {vl vu vc:Value} {Q:Value→Shared→Prop} (ht:IsTup s.heap t items) (hs:s.heap.IsSliceOf sl vl vu vc)
    (ha:∀ (A':Around) (Q':Int × Int × Nat→Shared→Prop) (E':Value→Shared→Prop),Q' (lo,step,n) s→wpAny (model prog w) A' (Builtin.Slice.sliceApplied (.ref sl) (pure (items.size:Int))) Q' E' s)
    (hsz:((List.range n).filterMap fun (k:Nat)=>items[(lo + (k:Int) * step).toNat]?).length ≤ sizeLine)
    (h1:(lo == 0 && step == 1 && n == items.size)=true→Q (.ref t) s)
    (h2:(lo == 0 && step == 1 && n == items.size)=false→Q (.ref s.heap.objs.size) { s with heap:=s.heap.push { cls:=.type "tuple",data:=.seq ((List.range n).filterMap fun (k:Nat)=>items[(lo + (k:Int) * step).toNat]?).toArray } }) :
    wpAny (model prog w) A (getItem (.ref t) (.ref sl)) Q E s:=by
  obtain ⟨os,hos,hcs,hds⟩:=id hs
  have hTs:s.TypeIs (.ref sl) "slice" := ⟨os,hos,hcs⟩
  have htake:sizeOk (.seq ((List.range n).filterMap fun (k:Nat)=>items[(lo + (k:Int) * step).toNat]?).toArray):=by
    show ((List.range n).filterMap fun (k:Nat)=>items[(lo + (k:Int) * step).toNat]?).toArray.size ≤ sizeLine
    rw [List.size_toArray]; exact hsz
  unfold getItem
  try with_reducible refine wpAny_holding ?_
  first | refine wpAny_bind (wpAny_pure ?_) | skip
  refine wpAny_bind (wpAny_sequenceKey ht.typeIs (by decide) ?_)
  refine wpAny_bind (wpAny_callSpecial?_slot (name:=Str.ofString "__getitem__") ht.typeIs PyProof.Rows.slot_tuple_getitem
    (wpAny_call_entry PyProof.Rows.slot_tuple_getitem ht.typeIs PyProof.Rows.entry_tuple_getitem ?_ (args_tuple_getitem _ _)))
  show wpAny _ _ (Builtin.Tuple.tupleItemsOf (.ref t) >>= _) _ _ s
  refine wpAny_bind (tupleItemsOf_ ht ?_)
  refine wpAny_bind (wpAny_typeOf hTs ?_)
  rw [if_pos (by decide)]
  refine wpAny_bind (ha _ _ _ ?_)
  cases hw:(lo == 0 && step == 1 && n == items.size) with
  | true=>
    show wpAny _ _ (if (lo == 0 && step == 1 && n == items.size)=true then _ else _) _ _ s
    rw [if_pos hw]
    refine wpAny_bind (tupIsExact_ ht ?_)
    rw [if_pos rfl]
    first
      | exact wpAny_bind (wpAny_rule (wpAny_pure ⟨_,rfl,wpAny_pure (h1 hw)⟩))
      | exact wpAny_bind (wpAny_rule (wpAny_bind (wpAny_pure (wpAny_pure ⟨_,rfl,wpAny_pure (h1 hw)⟩))))
      | (refine wpAny_bind (wpAny_rule ?_); trace_state; exact wpAny_pure ⟨_,rfl,h1 hw⟩)
  | false=>
    show wpAny _ _ (if (lo == 0 && step == 1 && n == items.size)=true then _ else _) _ _ s
    rw [if_neg (by rw [hw]; exact Bool.false_ne_true)]
    have h:=h2 hw
    first
      | exact wpAny_bind (m:=Builtin.Tuple.tupleExact _) (wpAny_newObj_type (wpAny_pure ⟨_,rfl,wpAny_pure h⟩) htake)
      | exact wpAny_bind (m:=Builtin.Tuple.tupleExact _) (wpAny_newObj_type (wpAny_bind (wpAny_pure (wpAny_pure ⟨_,rfl,wpAny_pure h⟩))) htake)
      | exact wpAny_bind (wpAny_bind (m:=Builtin.Tuple.tupleExact _) (wpAny_newObj_type (wpAny_pure (wpAny_pure ⟨_,rfl,wpAny_pure h⟩)) htake))
      | exact wpAny_bind (wpAny_bind (m:=Builtin.Tuple.tupleExact _) (wpAny_newObj_type (wpAny_pure ⟨_,rfl,wpAny_pure h⟩) htake))
end
end PF
set_option Elab.async false
set_option linter.all false
set_option maxRecDepth 100000
set_option maxHeartbeats 400000
namespace PF
open PySem PySem.Spec L2
open PyProof.Rows hiding St
mutual
noncomputable def toPy:D→PyData
  | .non=>.none
  | .bl b=>.bool b
  | .int i=>.int i
  | .str x=>.str x
  | .tup l=>.tuple (toPys l)
  | .lst l=>.list (toPys l)
  | .scr l=>.list (l.map .int)
  | .dic _ _=>.none
noncomputable def toPys:List D→List PyData
  | []=>[]
  | d :: l=>toPy d :: toPys l
end
mutual
noncomputable def deq:D→D→Bool
  | .non,.non=>true
  | .bl a,.bl b=>a == b
  | .bl a,.int j=>(if a then 1 else 0) == j
  | .int i,.bl b=>i == (if b then 1 else 0)
  | .int i,.int j=>i == j
  | .str x,.str y=>x == y
  | .tup l,.tup l'=>deqs l l'
  | .lst l,.lst l'=>deqs l l'
  | _,_=>false
noncomputable def deqs:List D→List D→Bool
  | [],[]=>true
  | d :: l,d' :: l'=>deq d d' && deqs l l'
  | _,_=>false
end
mutual
noncomputable def dep:D→Nat
  | .tup l=>deps l + 1
  | .lst l=>deps l + 1
  | .scr _=>1000
  | .dic _ _=>1000
  | .non=>0
  | .bl _=>0
  | .int _=>0
  | .str x=>if PyData.strOk x=true then 0 else 1000
noncomputable def deps:List D→Nat
  | []=>0
  | d :: l=>max (dep d) (deps l)
end
mutual
theorem lay_py:∀ d:D,dep d < 1000→(toPy d).canLay0=true
  | .non,_=>rfl
  | .bl _,_=>rfl
  | .int _,_=>rfl
  | .str x,h=>by
    have h':(if PyData.strOk x=true then 0 else 1000) < 1000:=h
    show PyData.strOk x=true
    split at h'
    · assumption
    · (clear h; omega)
  | .tup l,h=>by show PyData.canLayAll0 (toPys l)=true; exact lay_pys l (by have:deps l + 1 < 1000:=h; (clear h; omega))
  | .lst l,h=>by show PyData.canLayAll0 (toPys l)=true; exact lay_pys l (by have:deps l + 1 < 1000:=h; (clear h; omega))
  | .scr l,h=>absurd h (by show ¬ (1000 < 1000); (clear h; omega))
  | .dic _ _,h=>absurd h (by show ¬ (1000 < 1000); (clear h; omega))
theorem lay_pys:∀ l:List D,deps l < 1000→PyData.canLayAll0 (toPys l)=true
  | [],_=>rfl
  | d :: l,h=>by
    have h1:max (dep d) (deps l) < 1000:=h
    show (PyData.canLay0 (toPy d) && PyData.canLayAll0 (toPys l))=true
    rw [lay_py d (by (clear h; omega)),lay_pys l (by (clear h; omega))]; rfl
end
mutual
theorem depth_py:∀ d:D,(toPy d).depth ≤ dep d
  | .non=>Nat.le_refl _
  | .bl _=>Nat.le_refl _
  | .int _=>Nat.le_refl _
  | .str _=>Nat.zero_le _
  | .tup l=>by show PyData.depthAll (toPys l) + 1 ≤ deps l + 1; exact Nat.succ_le_succ (depth_pys l)
  | .lst l=>by show PyData.depthAll (toPys l) + 1 ≤ deps l + 1; exact Nat.succ_le_succ (depth_pys l)
  | .dic _ _=>Nat.zero_le _
  | .scr l=>by
    have h:PyData.depthAll (l.map .int)=0:=by
      induction l with
      | nil=>rfl
      | cons i l ih=>show max (PyData.depth (.int i)) (PyData.depthAll (l.map .int))=0; rw [ih]; rfl
    show PyData.depthAll (l.map .int) + 1 ≤ 1000
    rw [h]; (clear h; omega)
theorem depth_pys:∀ l:List D,PyData.depthAll (toPys l) ≤ deps l
  | []=>Nat.le_refl _
  | d :: l=>by
    show max (PyData.depth (toPy d)) (PyData.depthAll (toPys l)) ≤ max (dep d) (deps l)
    have h1:=depth_py d
    have h2:=depth_pys l
    omega
end
mutual
theorem eqv_py:∀ a b:D,dep a < 1000→dep b < 1000→PyData.eqv (toPy a) (toPy b)=deq a b
  | .tup l,.tup l',h,h'=>by show PyData.eqvAll (toPys l) (toPys l')=deqs l l'; exact eqv_pys l l' (by have:deps l + 1 < 1000:=h; (clear h' h; omega)) (by have:deps l' + 1 < 1000:=h'; (clear h' h; omega))
  | .lst l,.lst l',h,h'=>by show PyData.eqvAll (toPys l) (toPys l')=deqs l l'; exact eqv_pys l l' (by have:deps l + 1 < 1000:=h; (clear h' h; omega)) (by have:deps l' + 1 < 1000:=h'; (clear h' h; omega))
  | .scr l,_,h,_=>absurd h (by show ¬ (1000 < 1000); (clear h; omega))
  | _,.scr l,_,h=>absurd h (by show ¬ (1000 < 1000); (clear h; omega))
  | .dic _ _,_,h,_=>absurd h (by show ¬ (1000 < 1000); (clear h; omega))
  | _,.dic _ _,_,h=>absurd h (by show ¬ (1000 < 1000); (clear h; omega))
  | .non,.non,_,_=>rfl
  | .non,.bl _,_,_=>rfl
  | .non,.int _,_,_=>rfl
  | .non,.str _,_,_=>rfl
  | .non,.tup _,_,_=>rfl
  | .non,.lst _,_,_=>rfl
  | .bl _,.non,_,_=>rfl
  | .bl _,.bl _,_,_=>rfl
  | .bl _,.int _,_,_=>rfl
  | .bl _,.str _,_,_=>rfl
  | .bl _,.tup _,_,_=>rfl
  | .bl _,.lst _,_,_=>rfl
  | .int _,.non,_,_=>rfl
  | .int _,.bl _,_,_=>rfl
  | .int _,.int _,_,_=>rfl
  | .int _,.str _,_,_=>rfl
  | .int _,.tup _,_,_=>rfl
  | .int _,.lst _,_,_=>rfl
  | .str _,.non,_,_=>rfl
  | .str _,.bl _,_,_=>rfl
  | .str _,.int _,_,_=>rfl
  | .str _,.str _,_,_=>rfl
  | .str _,.tup _,_,_=>rfl
  | .str _,.lst _,_,_=>rfl
  | .tup _,.non,_,_=>rfl
  | .tup _,.bl _,_,_=>rfl
  | .tup _,.int _,_,_=>rfl
  | .tup _,.str _,_,_=>rfl
  | .tup _,.lst _,_,_=>rfl
  | .lst _,.non,_,_=>rfl
  | .lst _,.bl _,_,_=>rfl
  | .lst _,.int _,_,_=>rfl
  | .lst _,.str _,_,_=>rfl
  | .lst _,.tup _,_,_=>rfl
theorem eqv_pys:∀ l l':List D,deps l < 1000→deps l' < 1000→PyData.eqvAll (toPys l) (toPys l')=deqs l l'
  | [],[],_,_=>rfl
  | [],_ :: _,_,_=>rfl
  | _ :: _,[],_,_=>rfl
  | a :: l,b :: l',h,h'=>by
    have h1:max (dep a) (deps l) < 1000:=h
    have h2:max (dep b) (deps l') < 1000:=h'
    show (PyData.eqv (toPy a) (toPy b) && PyData.eqvAll (toPys l) (toPys l'))=(deq a b && deqs l l')
    rw [eqv_py a b (by (clear h2 h' h; omega)) (by (clear h1 h' h; omega)),eqv_pys l l' (by (clear h2 h' h; omega)) (by (clear h1 h' h; omega))]
end
section
variable {X:Cx} {pins:List (Addr × Obj)} {σ:St} {H:Hp} {s:Shared}
mutual
theorem reads_of (I:Inv X pins σ H s):∀ {d:D} {v:V} {u:Value},dep d < 1000→Rep X.K H d v→RelV v u→∃ as,Reads s.heap u (toPy d) as
  | .non,v,u,hd,h,r=>by
    obtain rfl:v=.non:=h
    obtain rfl:u=Value.none:=r
    exact ⟨_,.none⟩
  | .bl b,v,u,hd,h,r=>by
    obtain rfl:v=.bl b:=h
    obtain rfl:u=Value.bool b:=r
    exact ⟨_,.bool b⟩
  | .int i,v,u,hd,h,r=>by
    obtain rfl:v=.int i:=h
    obtain ⟨t,rfl⟩:=r
    exact ⟨_,.int i t⟩
  | .str x,v,u,hd,h,r=>by
    obtain rfl:v=.str x:=h
    obtain ⟨t,rfl⟩:=r
    exact ⟨_,.str x t⟩
  | .tup l,v,u,hd,h,r=>by
    obtain ⟨a,vs,rfl,ht,rl⟩:=h
    obtain rfl:u=Value.ref a:=r
    obtain ⟨its,rv,⟨o,e1,e2,n,e3⟩,_⟩:=I.tuple ht
    obtain ⟨as,q⟩:=reads_all I (by have:deps l + 1 < 1000:=hd; (clear e3 e2 e1 rv rl ht hd I; omega)) rl rv
    exact ⟨_,.tuple e1 e2 e3 (by simpa using q)⟩
  | .lst l,v,u,hd,h,r=>by
    obtain ⟨a,vs,rfl,ht,rl⟩:=h
    obtain rfl:u=Value.ref a:=r
    obtain ⟨its,rv,⟨o,n,e1,e2,_,e3⟩,_⟩:=I.list (SqL.of ht)
    obtain ⟨as,q⟩:=reads_all I (by have:deps l + 1 < 1000:=hd; (clear e3 e2 e1 rv rl ht hd I; omega)) rl rv
    exact ⟨_,.list e1 e2 e3 (by simpa using q)⟩
  | .scr l,v,u,hd,h,r=>by
    obtain ⟨a,rfl,ht⟩:=h
    obtain rfl:u=Value.ref a:=r
    obtain ⟨its,rv,⟨o,n,e1,e2,_,e3⟩,_⟩:=I.list ht
    have all:∀ (l:List Int) (us:List Value),Vals (l.map V.int) us→∃ as,ReadsAll s.heap us (l.map .int) as:=by
      intro l
      induction l with
      | nil=>intro us q; cases q; exact ⟨_,.nil⟩
      | cons i l ih=>
        intro us q
        cases q with
        | cons q1 q2=>
          obtain ⟨t,rfl⟩:=q1
          obtain ⟨as,z⟩:=ih _ q2
          exact ⟨_,.cons (.int i t) z⟩
    obtain ⟨as,q⟩:=all l its rv
    exact ⟨_,.list e1 e2 e3 (by simpa using q)⟩
  | .dic _ _,v,u,hd,h,r=>absurd hd (by show ¬ (1000 < 1000); (clear r h hd I; omega))
theorem reads_all (I:Inv X pins σ H s):∀ {l:List D} {vs:List V} {us:List Value},deps l < 1000→RepL X.K H l vs→Vals vs us→∃ as,ReadsAll s.heap us (toPys l) as
  | [],vs,us,hd,h,r=>by
    have e:vs=[]:=h
    subst e
    cases r
    exact ⟨_,.nil⟩
  | d :: l,vs,us,hd,h,r=>by
    have h1:max (dep d) (deps l) < 1000:=hd
    obtain ⟨v,t,rfl,q1,q2⟩:=h
    cases r with
    | cons r1 r2=>
      obtain ⟨as,z1⟩:=reads_of I (by (clear r2 r1 q2 q1 hd I; omega)) q1 r1
      obtain ⟨bs,z2⟩:=reads_all I (by (clear z1 r2 r1 q2 q1 hd I; omega)) q2 r2
      exact ⟨_,.cons z1 z2⟩
end
theorem RV.rep {K:PySem.W.Frag} {F H:Hp} {d:D} {v:V} (fh:Same F H) (h:RV K F H d v):Rep K H d v:=by
  cases d with
  | lst l=>
    obtain ⟨a,vs,e,q,r⟩:=h
    exact ⟨a,vs,e,q,r.mono fh⟩
  | dic ks l=>
    obtain ⟨a,vs,e,q,q2,r⟩:=h
    exact ⟨a,vs,e,q,q2,r.mono fh⟩
  | _=>exact Rep.mono fh h
noncomputable def rEqD (X:Cx) (neg:Bool):R2:=fun x y H Q=>∃ d1 d2,Rep X.K H d1 x∧Rep X.K H d2 y∧dep d1 < 1000∧dep d2 < 1000∧min (dep d1) (dep d2) ≤ 50∧Q (.bl (if neg then !(deq d1 d2) else deq d1 d2)) H
theorem op_eqD (hu:X.A.units + 64 < cLine):OpR X (compareOp .Eq) (rEqD X false):=by
  intro pins s σ H x y v u Q I rx ry h
  obtain ⟨d1,d2,r1,r2,z1,z2,hd,q⟩:=h
  obtain ⟨as,ra⟩:=reads_of I z1 r1 rx
  obtain ⟨bs,rb⟩:=reads_of I z2 r2 ry
  have h1:=depth_py d1
  have h2:=depth_py d2
  refine SeqAt.compareEq_reads ra rb (lay_py d1 z1) (lay_py d2 z2) (by (clear rb ra q z2 z1 r2 r1 ry rx I; omega)) ⟨.bl (deq d1 d2),H,I,?_,q⟩
  rw [eqv_py d1 d2 z1 z2]; rfl
theorem op_neD (hu:X.A.units + 64 < cLine):OpR X (compareOp .NotEq) (rEqD X true):=by
  intro pins s σ H x y v u Q I rx ry h
  obtain ⟨d1,d2,r1,r2,z1,z2,hd,q⟩:=h
  obtain ⟨as,ra⟩:=reads_of I z1 r1 rx
  obtain ⟨bs,rb⟩:=reads_of I z2 r2 ry
  have h1:=depth_py d1
  have h2:=depth_py d2
  refine SeqAt.compareNe_reads ra rb (lay_py d1 z1) (lay_py d2 z2) (by (clear rb ra q z2 z1 r2 r1 ry rx I; omega)) ⟨.bl (!(deq d1 d2)),H,I,?_,q⟩
  rw [eqv_py d1 d2 z1 z2]; rfl
noncomputable def cEq (d1 d2:D):Option D:=if dep d1 < 1000∧dep d2 < 1000∧min (dep d1) (dep d2) ≤ 50 then some (.bl (deq d1 d2)) else none
noncomputable def cNe (d1 d2:D):Option D:=if dep d1 < 1000∧dep d2 < 1000∧min (dep d1) (dep d2) ≤ 50 then some (.bl (!(deq d1 d2))) else none
theorem cEq_ok:OpD X.K (rEqD X false) cEq:=fun F H d1 d2 d v1 v2 Q fh r1 r2 e q=>by
  unfold cEq at e
  split at e
  · rename_i h
    have e':=Option.some.inj e
    subst e'
    exact ⟨d1,d2,r1.rep fh,r2.rep fh,h.1,h.2.1,h.2.2,q _ F H (Ext.refl fh) rfl⟩
  · cases e
theorem cNe_ok:OpD X.K (rEqD X true) cNe:=fun F H d1 d2 d v1 v2 Q fh r1 r2 e q=>by
  unfold cNe at e
  split at e
  · rename_i h
    have e':=Option.some.inj e
    subst e'
    exact ⟨d1,d2,r1.rep fh,r2.rep fh,h.1,h.2.1,h.2.2,q _ F H (Ext.refl fh) rfl⟩
  · cases e
end
noncomputable def cInt (p:Int→Int→Bool):D→D→Option D
  | .int i,.int j=>some (.bl (p i j))
  | _,_=>none
theorem cInt_ok {K:PySem.W.Frag} {p:Int→Int→Bool}:OpD K (rI0 fun i j=>.bl (p i j)) (cInt p):=fun F H d1 d2 d v1 v2 Q fh r1 r2 e q=>by
  cases d1 <;> cases d2 <;> first | (simp [cInt] at e; done) | skip
  rename_i i j
  have e':=Option.some.inj e
  subst e'
  exact ⟨i,j,r1,r2,q _ F H (Ext.refl fh) rfl⟩
section
variable {X:Cx}
noncomputable def rCatT2 (K:PySem.W.Frag):R2:=fun x y H Q=>∃ a b xs ys,x=.ref a∧y=.ref b∧SqT K H a xs∧SqT K H b ys∧xs.length + ys.length ≤ sizeLine∧
  (xs=[]→Q (.ref b) H)∧(ys=[]→Q (.ref a) H)∧∀ p,H p=none→Q (.ref p) (upd H p (.tup (xs ++ ys)))
theorem op_catT2:OpR X (binaryOp .Add) (rCatT2 X.K):=by
  intro pins s σ H x y v u Q I rx ry h
  obtain ⟨a,b,xs,ys,rfl,rfl,ha,hb,hz,q0,q1,q2⟩:=h
  by_cases hx:xs=[]
  · cases rx
    cases ry
    obtain ⟨its,r1,p1,_⟩:=I.tuple ha
    obtain ⟨its2,r2,p2,_⟩:=I.tuple hb
    obtain ⟨⟨cls,dd,data,sl⟩,ho,hc,n,hd⟩:=id p1
    obtain ⟨⟨cls2,dd2,data2,sl2⟩,ho2,hc2,n2,hd2⟩:=id p2
    simp only at hc hd hc2 hd2
    subst hc hd hc2 hd2
    have e:its=[]:=r1.nil_iff.mpr hx
    exact concat_meets ⟨_,ho,rfl⟩ ⟨_,ho2,rfl⟩ noFill_tuple_add seq_tuple_add PySem.F.slot_tuple_add PySem.F.entry_tuple_add (PySem.F.args_tuple_add_2 _ _)
      (tuple_addW0 a b its.toArray its2.toArray n n2 dd dd2 sl sl2 (by simp [e])) ⟨ho,ho2,⟨.ref b,H,I,rfl,q0 hx⟩⟩
  · exact op_catT pins s σ H (.ref a) (.ref b) v u Q I rx ry ⟨a,b,xs,ys,rfl,rfl,ha,hb,hx,hz,q1,fun _=>q2⟩
end
noncomputable def opI2 (f:Int→Int→Int):D→D→Option D
  | .int i,.int j=>some (.int (f i j))
  | _,_=>none
noncomputable def opC2 (c:Int→Int→Bool) (f:Int→Int→Int):D→D→Option D
  | .int i,.int j=>if c i j=true then some (.int (f i j)) else none
  | _,_=>none
theorem opI2_ok {K:PySem.W.Frag} {f:Int→Int→Int}:OpD K (rI0 fun i j=>.int (f i j)) (opI2 f):=fun F H d1 d2 d v1 v2 Q fh r1 r2 e q=>by
  cases d1 <;> cases d2 <;> first | (simp [opI2] at e; done) | skip
  rename_i i j
  have e':=Option.some.inj e
  subst e'
  exact ⟨i,j,r1,r2,q _ F H (Ext.refl fh) rfl⟩
theorem opC2_ok {K:PySem.W.Frag} {c:Int→Int→Bool} {C:Int→Int→Prop} {f:Int→Int→Int} (hc:∀ i j,c i j=true→C i j):OpD K (rI C fun i j=>.int (f i j)) (opC2 c f):=fun F H d1 d2 d v1 v2 Q fh r1 r2 e q=>by
  cases d1 <;> cases d2 <;> first | (simp [opC2] at e; done) | skip
  rename_i i j
  have e2:(if c i j=true then some (D.int (f i j)) else none)=some d:=e
  split at e2
  · rename_i h
    have e':=Option.some.inj e2
    subst e'
    exact ⟨i,j,r1,r2,hc i j h,q _ F H (Ext.refl fh) rfl⟩
  · cases e2
noncomputable def okMod (_ j:Int):Bool:=decide (0 < j)
noncomputable def okDiv (_ j:Int):Bool:=decide (0 < j) && decide (j < 1073741824)
noncomputable def okMul (i j:Int):Bool:=(decide (-18446744073709551616 < i) && decide (i < 18446744073709551616)) || (decide (-18446744073709551616 < j) && decide (j < 18446744073709551616))
theorem okDiv_ok (i j:Int) (h:okDiv i j=true):CDiv i j:=by
  unfold okDiv at h
  rw [Bool.and_eq_true] at h
  exact ⟨of_decide_eq_true h.1,of_decide_eq_true h.2⟩
theorem okMul_ok (i j:Int) (h:okMul i j=true):CMul i j:=by
  unfold okMul at h
  rw [Bool.or_eq_true,Bool.and_eq_true,Bool.and_eq_true] at h
  have e:(2:Int) ^ 64=18446744073709551616:=by decide
  rcases h with h | h
  · exact .inl ⟨by rw [e]; exact of_decide_eq_true h.1,by rw [e]; exact of_decide_eq_true h.2⟩
  · exact .inr ⟨by rw [e]; exact of_decide_eq_true h.1,by rw [e]; exact of_decide_eq_true h.2⟩
section
variable {X:Cx}
noncomputable def rAddA (K:PySem.W.Frag):R2:=fun x y H Q=>(rI0 (fun i j=>.int (i + j))) x y H Q∨(∃ i j,x=.str i∧y=.str j∧i.length + j.length ≤ sizeLine∧Q (.str (i ++ j)) H)∨rCatT2 K x y H Q∨rCat x y H Q
theorem op_addA:OpR X (binaryOp .Add) (rAddA X.K):=OpR.or op_add (OpR.or op_add_str (OpR.or op_catT2 op_cat))
noncomputable def opAdd:D→D→Option D
  | .int i,.int j=>some (.int (i + j))
  | .str i,.str j=>if i.length + j.length ≤ big then some (.str (i ++ j)) else none
  | .tup l,.tup l'=>if l.length + l'.length ≤ big then some (.tup (l ++ l')) else none
  | .lst l,.lst l'=>if l.length + l'.length ≤ big then some (.lst (l ++ l')) else none
  | _,_=>none
theorem opAdd_ok:OpD X.K (rAddA X.K) opAdd:=fun F H d1 d2 d v1 v2 Q fh r1 r2 e q=>by
  cases d1 <;> cases d2 <;> first | (simp [opAdd] at e; done) | skip
  · rename_i i j
    have e':=Option.some.inj e
    subst e'
    exact .inl ⟨i,j,r1,r2,q _ F H (Ext.refl fh) rfl⟩
  · rename_i i j
    have e2:(if i.length + j.length ≤ big then some (D.str (i ++ j)) else none)=some d:=e
    split at e2
    · rename_i hz
      have e':=Option.some.inj e2
      subst e'
      exact .inr (.inl ⟨i,j,r1,r2,big_le hz,q _ F H (Ext.refl fh) rfl⟩)
    · cases e2
  · rename_i l l'
    have e2:(if l.length + l'.length ≤ big then some (D.tup (l ++ l')) else none)=some d:=e
    split at e2
    · rename_i hz
      have e':=Option.some.inj e2
      subst e'
      obtain ⟨a,vs,rfl,ht,rl⟩:=r1
      obtain ⟨b,ws,rfl,ht',rl'⟩:=r2
      refine .inr (.inr (.inl ⟨a,b,vs,ws,rfl,rfl,SqT.same fh ht,SqT.same fh ht',by rw [← rl.length,← rl'.length]; exact big_le hz,fun z=>?_,fun z=>?_,fun p hp=>?_⟩))
      · have:l=[]:=List.length_eq_zero_iff.mp (by rw [rl.length,z]; rfl)
        subst this
        exact q _ F H (Ext.refl fh) ⟨b,ws,rfl,ht',rl'⟩
      · have:l'=[]:=List.length_eq_zero_iff.mp (by rw [rl'.length,z]; rfl)
        subst this
        rw [List.append_nil] at q
        exact q _ F H (Ext.refl fh) ⟨a,vs,rfl,ht,rl⟩
      · have hf:=fh.free hp
        exact q _ _ _ (ext_alloc fh hp) ⟨p,vs ++ ws,rfl,SqT.of upd_same,(rl.append rl').mono (same_upd hf)⟩
    · cases e2
  · rename_i l l'
    have e2:(if l.length + l'.length ≤ big then some (D.lst (l ++ l')) else none)=some d:=e
    split at e2
    · rename_i hz
      have e':=Option.some.inj e2
      subst e'
      obtain ⟨a,vs,rfl,ht,rl⟩:=r1
      obtain ⟨b,ws,rfl,ht',rl'⟩:=r2
      refine .inr (.inr (.inr ⟨a,b,vs,ws,rfl,rfl,ht,ht',by rw [← rl.length,← rl'.length]; exact big_le hz,fun p hp=>?_⟩))
      have hf:=fh.free hp
      exact q _ _ _ (ext_alloc fh hp) ⟨p,vs ++ ws,rfl,upd_same,(rl.append rl').mono (same_upd hf)⟩
    · cases e2
noncomputable def rRepT (K:PySem.W.Frag):R2:=fun x y H Q=>∃ l k xs,x=.ref l∧y=.int k∧SqT K H l xs∧-(2 ^ 63) ≤ k∧k < 2 ^ 63∧xs.length * k.toNat ≤ sizeLine∧((xs=[]∨k=1)→Q (.ref l) H)∧
  ∀ p,H p=none→Q (.ref p) (upd H p (.tup (List.replicate k.toNat xs).flatten))
theorem op_repT:OpR X (binaryOp .Mult) (rRepT X.K):=by
  intro pins s σ H x y v u Q I rx ry h
  obtain ⟨l,k,xs,rfl,rfl,hH,h1,h2,hz,q1,q2⟩:=h
  cases rx
  obtain ⟨t,rfl⟩:=ry
  obtain ⟨its,r,p,_⟩:=I.tuple hH
  have hlen:=r.length
  refine mul_tup p h1 h2 (by rw [← hlen]; exact hz) (fun z=>⟨.ref l,H,I,rfl,q1 ?_⟩) ?_
  · rcases z with z | z
    · exact .inl (r.nil_iff.mp z)
    · exact .inr z
  · refine ⟨.ref s.heap.objs.size,_,I.laid (t':=s.toks) (o:=.tup (List.replicate k.toNat xs).flatten) (fun b ob q=>Heap.get?_push_of_some _ q) (Nat.le_refl _) ?_,rfl,q2 _ I.fresh⟩
    exact ⟨by rw [len_rep,Nat.mul_comm]; exact hz,_,r.rep k.toNat,IsTup.new _ _⟩
noncomputable def rMulA (K:PySem.W.Frag):R2:=fun x y H Q=>(rI CMul (fun i j=>.int (i * j))) x y H Q∨rRepT K x y H Q∨rRep x y H Q
theorem op_mulA:OpR X (binaryOp .Mult) (rMulA X.K):=OpR.or op_mul (OpR.or op_repT op_rep)
noncomputable def okRep (n:Nat) (k:Int):Bool:=decide (k ≤ 100000) && decide (-100000 ≤ k) && decide (n * k.toNat ≤ big)
noncomputable def opMul:D→D→Option D
  | .int i,.int j=>if okMul i j=true then some (.int (i * j)) else none
  | .tup l,.int k=>if okRep l.length k=true then some (.tup (List.replicate k.toNat l).flatten) else none
  | .lst l,.int k=>if okRep l.length k=true then some (.lst (List.replicate k.toNat l).flatten) else none
  | _,_=>none
theorem okRep_ok {n:Nat} {k:Int} (h:okRep n k=true):-(2 ^ 63) ≤ k∧k < 2 ^ 63∧n * k.toNat ≤ sizeLine:=by
  unfold okRep at h
  rw [Bool.and_eq_true,Bool.and_eq_true] at h
  have h1:=of_decide_eq_true h.1.1
  have h2:=of_decide_eq_true h.1.2
  exact ⟨by (clear h1 h; omega),by (clear h2 h; omega),big_le (of_decide_eq_true h.2)⟩
theorem opMul_ok:OpD X.K (rMulA X.K) opMul:=fun F H d1 d2 d v1 v2 Q fh r1 r2 e q=>by
  cases d1 <;> cases d2 <;> first | (simp [opMul] at e; done) | skip
  · rename_i i j
    have e2:(if okMul i j=true then some (D.int (i * j)) else none)=some d:=e
    split at e2
    · rename_i hz
      have e':=Option.some.inj e2
      subst e'
      exact .inl ⟨i,j,r1,r2,okMul_ok i j hz,q _ F H (Ext.refl fh) rfl⟩
    · cases e2
  · rename_i l k
    have e2:(if okRep l.length k=true then some (D.tup (List.replicate k.toNat l).flatten) else none)=some d:=e
    split at e2
    · rename_i hz
      have e':=Option.some.inj e2
      subst e'
      obtain ⟨a,vs,rfl,ht,rl⟩:=r1
      obtain ⟨b1,b2,b3⟩:=okRep_ok hz
      refine .inr (.inl ⟨a,k,vs,rfl,r2,SqT.same fh ht,b1,b2,by rw [← rl.length]; exact b3,fun z=>?_,fun p hp=>?_⟩)
      · have el:(List.replicate k.toNat l).flatten=l:=by
          rcases z with z | z
          · have:l=[]:=List.length_eq_zero_iff.mp (by rw [rl.length,z]; rfl)
            subst this
            exact List.length_eq_zero_iff.mp (by rw [len_rep]; simp)
          · subst z
            show (List.replicate 1 l).flatten=l
            simp
        rw [el] at q
        exact q _ F H (Ext.refl fh) ⟨a,vs,rfl,ht,rl⟩
      · have hf:=fh.free hp
        exact q _ _ _ (ext_alloc fh hp) ⟨p,_,rfl,SqT.of upd_same,(rl.rep k.toNat).mono (same_upd hf)⟩
    · cases e2
  · rename_i l k
    have e2:(if okRep l.length k=true then some (D.lst (List.replicate k.toNat l).flatten) else none)=some d:=e
    split at e2
    · rename_i hz
      have e':=Option.some.inj e2
      subst e'
      obtain ⟨a,vs,rfl,ht,rl⟩:=r1
      obtain ⟨b1,b2,b3⟩:=okRep_ok hz
      refine .inr (.inr ⟨a,k,vs,rfl,r2,ht,b1,b2,by rw [← rl.length]; exact b3,fun p hp=>?_⟩)
      have hf:=fh.free hp
      exact q _ _ _ (ext_alloc fh hp) ⟨p,_,rfl,upd_same,(rl.rep k.toNat).mono (same_upd hf)⟩
    · cases e2
noncomputable def uNeg:D→Option D
  | .int i=>some (.int (-i))
  | _=>none
theorem uNeg_ok:UnD X.K (rU fun i=>.int (-i)) uNeg:=fun F H d1 d v1 Q fh r1 e q=>by
  cases d1 <;> first | (simp [uNeg] at e; done) | skip
  rename_i i
  have e':=Option.some.inj e
  subst e'
  exact ⟨i,r1,q _ F H (Ext.refl fh) rfl⟩
end
section
variable {X:Cx} {F0 H0:Hp} {xq:Addr→Hp→Prop} {pos:Pos} {a b c:Expr} {fa fb fc:DS→M VR}
theorem de_add (ha:DE X F0 H0 xq a fa) (hb:DE X F0 H0 xq b fb):DE X F0 H0 xq (.BinOp a .Add b pos) (dBin opAdd fa fb):=de_bin op_addA opAdd_ok ha hb
theorem de_sub (ha:DE X F0 H0 xq a fa) (hb:DE X F0 H0 xq b fb):DE X F0 H0 xq (.BinOp a .Sub b pos) (dBin (opI2 fun i j=>i - j) fa fb):=de_bin op_sub opI2_ok ha hb
theorem de_mul (ha:DE X F0 H0 xq a fa) (hb:DE X F0 H0 xq b fb):DE X F0 H0 xq (.BinOp a .Mult b pos) (dBin opMul fa fb):=de_bin op_mulA opMul_ok ha hb
theorem de_div (ha:DE X F0 H0 xq a fa) (hb:DE X F0 H0 xq b fb):DE X F0 H0 xq (.BinOp a .FloorDiv b pos) (dBin (opC2 okDiv fun i j=>i / j) fa fb):=de_bin op_fdiv (opC2_ok okDiv_ok) ha hb
theorem de_mod (ha:DE X F0 H0 xq a fa) (hb:DE X F0 H0 xq b fb):DE X F0 H0 xq (.BinOp a .Mod b pos) (dBin (opC2 okMod fun i j=>i % j) fa fb):=de_bin op_mod (opC2_ok fun _ _ h=>of_decide_eq_true h) ha hb
theorem de_neg (ha:DE X F0 H0 xq a fa):DE X F0 H0 xq (.UnaryOp .USub a pos) (dUn uNeg fa):=de_un un_neg uNeg_ok ha
noncomputable abbrev cLt:=cInt fun i j=>decide (i < j)
noncomputable abbrev cLe:=cInt fun i j=>decide (i ≤ j)
noncomputable abbrev cGt:=cInt fun i j=>decide (j < i)
noncomputable abbrev cGe:=cInt fun i j=>decide (j ≤ i)
theorem de_le (ha:DE X F0 H0 xq a fa) (hb:DE X F0 H0 xq b fb):DE X F0 H0 xq (.Compare a [.LtE] [b] pos) (dBin cLe fa fb):=de_cmp op_le cInt_ok ha hb (nomark _)
theorem de_gt (ha:DE X F0 H0 xq a fa) (hb:DE X F0 H0 xq b fb):DE X F0 H0 xq (.Compare a [.Gt] [b] pos) (dBin cGt fa fb):=de_cmp op_gt cInt_ok ha hb (nomark _)
theorem de_eq (hu:X.A.units + 64 < cLine) (ha:DE X F0 H0 xq a fa) (hb:DE X F0 H0 xq b fb):DE X F0 H0 xq (.Compare a [.Eq] [b] pos) (dBin cEq fa fb):=de_cmp (op_eqD hu) cEq_ok ha hb (nomark _)
theorem de_ne (hu:X.A.units + 64 < cLine) (ha:DE X F0 H0 xq a fa) (hb:DE X F0 H0 xq b fb):DE X F0 H0 xq (.Compare a [.NotEq] [b] pos) (dBin cNe fa fb):=de_cmp (op_neD hu) cNe_ok ha hb (nomark _)
theorem dt_lt (ha:DE X F0 H0 xq a fa) (hb:DE X F0 H0 xq b fb):DT X F0 H0 xq (.Compare a [.Lt] [b] pos) (dtB (dBin cLt fa fb)):=dt_cmp op_lt cInt_ok ha hb (nomark _)
theorem dt_gt (ha:DE X F0 H0 xq a fa) (hb:DE X F0 H0 xq b fb):DT X F0 H0 xq (.Compare a [.Gt] [b] pos) (dtB (dBin cGt fa fb)):=dt_cmp op_gt cInt_ok ha hb (nomark _)
theorem dt_eq (hu:X.A.units + 64 < cLine) (ha:DE X F0 H0 xq a fa) (hb:DE X F0 H0 xq b fb):DT X F0 H0 xq (.Compare a [.Eq] [b] pos) (dtB (dBin cEq fa fb)):=dt_cmp (op_eqD hu) cEq_ok ha hb (nomark _)
theorem dt_ne (hu:X.A.units + 64 < cLine) (ha:DE X F0 H0 xq a fa) (hb:DE X F0 H0 xq b fb):DT X F0 H0 xq (.Compare a [.NotEq] [b] pos) (dtB (dBin cNe fa fb)):=dt_cmp (op_neD hu) cNe_ok ha hb (nomark _)
theorem de_lele (ha:DE X F0 H0 xq a fa) (hb:DE X F0 H0 xq b fb) (hc:DE X F0 H0 xq c fc) (hm:lastMarks [.LtE,.LtE] [b,c]=false:=by with_unfolding_all rfl):DE X F0 H0 xq (.Compare a [.LtE,.LtE] [b,c] pos) (dChain cLe cLe fa fb fc):=de_chain op_le op_le cInt_ok cInt_ok ha hb hc hm
noncomputable def uLen:D→Option D
  | .tup l=>some (.int l.length)
  | .lst l=>some (.int l.length)
  | .scr l=>some (.int l.length)
  | .str x=>if x.length ≤ big then some (.int x.length) else none
  | _=>none
noncomputable def rLen (K:PySem.W.Frag):List V→Hp→VK→Prop:=fun xs H Q=>(∃ p ys,xs=[.ref p]∧(SqL K H p ys∨SqT K H p ys)∧Q (.int ys.length) H)∨(∃ z,xs=[.str z]∧z.length ≤ sizeLine∧Q (.int z.length) H)
theorem uLen_ok:UnD X.K (fun x H Q=>rLen X.K [x] H Q) uLen:=fun F H d1 d v1 Q fh r1 e q=>by
  cases d1 <;> first | (simp [uLen] at e; done) | skip
  · rename_i z
    have e2:(if z.length ≤ big then some (D.int z.length) else none)=some d:=e
    split at e2
    · rename_i hz
      have e':=Option.some.inj e2
      subst e'
      obtain rfl:v1=.str z:=r1
      exact .inr ⟨z,rfl,big_le hz,q _ F H (Ext.refl fh) rfl⟩
    · cases e2
  · rename_i l
    have e':=Option.some.inj e
    subst e'
    obtain ⟨a,vs,rfl,ht,rl⟩:=r1
    refine .inl ⟨a,vs,rfl,.inr (SqT.same fh ht),?_⟩
    rw [← rl.length]
    exact q _ F H (Ext.refl fh) rfl
  · rename_i l
    have e':=Option.some.inj e
    subst e'
    obtain ⟨a,vs,rfl,ht,rl⟩:=r1
    refine .inl ⟨a,vs,rfl,.inl (SqL.of ht),?_⟩
    rw [← rl.length]
    exact q _ F H (Ext.refl fh) rfl
  · rename_i l
    have e':=Option.some.inj e
    subst e'
    obtain ⟨a,rfl,ht⟩:=r1
    refine .inl ⟨a,_,rfl,.inl (fh.seq ht),?_⟩
    rw [List.length_map]
    exact q _ F H (Ext.refl fh) rfl
theorem de_len {p:Pos} (hgl:Gl X "len") (hm:X.mg "len" = none) (ha:DE X F0 H0 xq a fa) (he:starEach [a] X.env=(false,eval a X.env) :: starEach [] X.env:=by rfl):DE X F0 H0 xq (.Call (.Name "len" p) [a] [] pos) (dUn uLen fa):=
  de_b1 (r:=rLen X.K) (CallR.or call_len_seq call_len_str) uLen_ok hgl hm PySem.boot_len ha (by decide) (by decide) he
noncomputable def uInt:D→Option D
  | .int i=>some (.int i)
  | .bl k=>some (.int (if k then 1 else 0))
  | _=>none
theorem uInt_ok:UnD X.K (fun x H Q=>(∃ i,[x]=[V.int i]∧Q (.int i) H)∨∃ k,[x]=[V.bl k]∧Q (.int (if k then 1 else 0)) H) uInt:=fun F H d1 d v1 Q fh r1 e q=>by
  cases d1 <;> first | (simp [uInt] at e; done) | skip
  · rename_i k
    have e':=Option.some.inj e
    subst e'
    obtain rfl:v1=.bl k:=r1
    exact .inr ⟨k,rfl,q _ F H (Ext.refl fh) rfl⟩
  · rename_i i
    have e':=Option.some.inj e
    subst e'
    obtain rfl:v1=.int i:=r1
    exact .inl ⟨i,rfl,q _ F H (Ext.refl fh) rfl⟩
theorem de_int1 {p:Pos} (hgl:Gl X "int") (hm:X.mg "int" = none) (ha:DE X F0 H0 xq a fa) (he:starEach [a] X.env=(false,eval a X.env) :: starEach [] X.env:=by rfl):DE X F0 H0 xq (.Call (.Name "int" p) [a] [] pos) (dUn uInt fa):=
  de_t1 call_int1 uInt_ok hgl hm (by rfl) ha (by decide) (by decide) he
noncomputable def uStr:D→Option D
  | .int i=>if (decide (-1000000000000 ≤ i) && decide (i ≤ 1000000000000))=true then some (.str (toString i)) else none
  | _=>none
theorem uStr_ok:UnD X.K (fun x H Q=>∃ i,[x]=[V.int i]∧i.natAbs.log2 < 1920∧Q (.str (toString i)) H) uStr:=fun F H d1 d v1 Q fh r1 e q=>by
  cases d1 <;> first | (simp [uStr] at e; done) | skip
  rename_i i
  have e2:(if (decide (-1000000000000 ≤ i) && decide (i ≤ 1000000000000))=true then some (D.str (toString i)) else none)=some d:=e
  split at e2
  · rename_i hz
    rw [Bool.and_eq_true] at hz
    have h1:=of_decide_eq_true hz.1
    have h2:=of_decide_eq_true hz.2
    have e':=Option.some.inj e2
    subst e'
    obtain rfl:v1=.int i:=r1
    refine ⟨i,rfl,?_,q _ F H (Ext.refl fh) rfl⟩
    by_cases h0:i.natAbs=0
    · rw [h0]; decide
    · have h41:i.natAbs < 2199023255552:=by (clear h0 e2 e q hz fh; omega)
      have hl:i.natAbs.log2 < 41:=(Nat.log2_lt h0).mpr h41
      (clear h41 h0 e2 e q h2 h1 hz fh; omega)
  · cases e2
theorem de_str1 {p:Pos} (hgl:Gl X "str") (hm:X.mg "str" = none) (ha:DE X F0 H0 xq a fa) (he:starEach [a] X.env=(false,eval a X.env) :: starEach [] X.env:=by rfl):DE X F0 H0 xq (.Call (.Name "str" p) [a] [] pos) (dUn uStr fa):=
  de_t1 call_str_int uStr_ok hgl hm (by rfl) ha (by decide) (by decide) he
noncomputable def uTup:D→Option D
  | .tup l=>some (.tup l)
  | .lst l=>some (.tup l)
  | _=>none
theorem uTup_ok:UnD X.K (fun x H Q=>∃ p ys,[x]=[V.ref p]∧((SqL X.K H p ys∧∀ l,H l=none→Q (.ref l) (upd H l (.tup ys)))∨(SqT X.K H p ys∧Q (.ref p) H))) uTup:=fun F H d1 d v1 Q fh r1 e q=>by
  cases d1 <;> first | (simp [uTup] at e; done) | skip
  · rename_i l
    have e':=Option.some.inj e
    subst e'
    obtain ⟨a,vs,rfl,ht,rl⟩:=r1
    exact ⟨a,vs,rfl,.inr ⟨SqT.same fh ht,q _ F H (Ext.refl fh) ⟨a,vs,rfl,ht,rl⟩⟩⟩
  · rename_i l
    have e':=Option.some.inj e
    subst e'
    obtain ⟨a,vs,rfl,ht,rl⟩:=r1
    exact ⟨a,vs,rfl,.inl ⟨SqL.of ht,fun p hp=>q _ _ _ (ext_alloc fh hp) ⟨p,vs,rfl,SqT.of upd_same,rl.mono (same_upd (fh.free hp))⟩⟩⟩
theorem de_tuple1 {p:Pos} (hgl:Gl X "tuple") (hm:X.mg "tuple" = none) (ha:DE X F0 H0 xq a fa) (he:starEach [a] X.env=(false,eval a X.env) :: starEach [] X.env:=by rfl):DE X F0 H0 xq (.Call (.Name "tuple" p) [a] [] pos) (dUn uTup fa):=
  de_t1 call_tuple_of uTup_ok hgl hm (by rfl) ha (by decide) (by decide) he
noncomputable def dList1 (f:DS→M VR):DS→M (List D):=fun S=>mb (f S) fun r=>match toD r with
  | .tup l=>some (.ok l)
  | .lst l=>some (.ok l)
  | .scr l=>some (.ok (l.map .int))
  | _=>none
noncomputable def tyN:D→String
  | .non => "NoneType"
  | .bl _ => "bool"
  | .int _ => "int"
  | .str _ => "str"
  | .tup _ => "tuple"
  | .lst _ => "list"
  | .scr _ => "list"
  | .dic _ _ => "dict"
noncomputable def isiB (t T:String):Bool:=t == T || (t == "bool" && T == "int")
end
end PF
set_option Elab.async false
set_option linter.all false
set_option maxRecDepth 100000
set_option maxHeartbeats 400000
namespace PF
open PySem PySem.Spec L2
open PyProof.Rows hiding St
section
variable {X:Cx} {F0 H0:Hp} {xq:Addr→Hp→Prop} {pos:Pos} {a b c:Expr} {fa fb fc:DS→M VR}
theorem isi_list {pins:List (Addr × Obj)} {σ:St} {H:Hp} {s:Shared} {A:Around} {E:Value→Shared→Prop} {Q:Value→Shared→Prop} {c:Value} {k:Bool} {a:Addr} {xs:List V} (I:Inv X pins σ H s) (h:SqL X.K H a xs) (e:PySem.W.kitOne X.K (.type "list") c=some k)
    (q:∀ tk,Q (.bool k) { s with toks:=tk }):wpAny (model X.prog X.w) A (call (.builtin "isinstance") [.ref a,c]) Q E s:=by
  obtain ⟨its,_,⟨o,n,e1,e2,_⟩,_⟩:=I.list h
  exact PySem.W.kia_one PySem.W.kitx_list I.kIn ⟨o,e1,e2⟩ e (fun z=>nomatch z) q
theorem isi_tuple {pins:List (Addr × Obj)} {σ:St} {H:Hp} {s:Shared} {A:Around} {E:Value→Shared→Prop} {Q:Value→Shared→Prop} {c:Value} {k:Bool} {a:Addr} {xs:List V} (I:Inv X pins σ H s) (h:SqT X.K H a xs) (e:PySem.W.kitOne X.K (.type "tuple") c=some k)
    (q:∀ tk,Q (.bool k) { s with toks:=tk }):wpAny (model X.prog X.w) A (call (.builtin "isinstance") [.ref a,c]) Q E s:=by
  obtain ⟨its,_,⟨o,e1,e2,_⟩,_⟩:=I.tuple h
  exact PySem.W.kia_one PySem.W.kitx_tuple I.kIn ⟨o,e1,e2⟩ e (fun z=>nomatch z) q
noncomputable def rIsi (K:PySem.W.Frag) (T:String):List V→Hp→VK→Prop:=fun xs H Q=>∃ x d,xs=[x,.ty T]∧Rep K H d x∧Q (.bl (isiB (tyN d) T)) H
theorem call_isi (T:String) (h:∀ K:PySem.W.Frag,∀ d:D,PySem.W.kitOne K (.type (tyN d)) (.type T)=some (isiB (tyN d) T)):CallR X (.builtin "isinstance") (rIsi X.K T):=by
  intro pins s σ H xs us Q I r q
  obtain ⟨x,d,rfl,rp,q⟩:=q
  obtain ⟨u,w',rfl,rx,rt⟩:=vals2 r
  cases rt
  have e:=h X.K d
  have fin:∀ tk,EP X pins σ Q (.bool (isiB (tyN d) T)) { s with toks:=tk }:=fun tk=>⟨.bl _,H,I.tok tk,rfl,q⟩
  cases d with
  | non=>obtain rfl:x=.non:=rp; exact isinst_ok I rx (TyOf.non) e fin
  | bl y=>obtain rfl:x=.bl y:=rp; exact isinst_ok I rx (TyOf.bl y) e fin
  | int y=>obtain rfl:x=.int y:=rp; exact isinst_ok I rx (TyOf.int y) e fin
  | str y=>obtain rfl:x=.str y:=rp; exact isinst_ok I rx (TyOf.str y) e fin
  | tup l=>obtain ⟨a,vs,rfl,ht,_⟩:=rp; cases rx; exact isi_tuple I ht e fin
  | lst l=>obtain ⟨a,vs,rfl,ht,_⟩:=rp; cases rx; exact isi_list I (SqL.of ht) e fin
  | scr l=>obtain ⟨a,rfl,ht⟩:=rp; cases rx; exact isi_list I ht e fin
  | dic ks l=>obtain ⟨a,kvs,rfl,ht,_⟩:=rp; exact isinst_ok I rx (TyOf.dK ht) e fin
noncomputable def uIsiT (T:String):D→Option D:=fun d=>some (.bl (isiB (tyN d) T))
theorem de_isi (T:String) (h:∀ K:PySem.W.Frag,∀ d:D,PySem.W.kitOne K (.type (tyN d)) (.type T)=some (isiB (tyN d) T)) {x:Str} {p p2:Pos} (hb:bootBuiltins x=some (.type T)) (hxn:x ≠ "__name__") (hxd:(x == ("__debug__" : Str))=false)
    (hgl:Gl X "isinstance") (hm:X.mg "isinstance" = none) (hgl2:Gl X x) (hm2:X.mg x=none) (ha:DE X F0 H0 xq a fa) (he:starEach [a,.Name x p2] X.env=(false,eval a X.env) :: starEach [.Name x p2] X.env) (he2:starEach [.Name x p2] X.env=(false,eval (.Name x p2) X.env) :: starEach [] X.env) (hpl:(backTo pos (starEach [.Name x p2] X.env)).any (·.1)=false) :
    DE X F0 H0 xq (.Call (.Name "isinstance" p) [a,.Name x p2] [] pos) (dUn (uIsiT T) fa):=.mk fun pins s σ H Q I q=>by
  refine pe_callB (call_isi T h) hgl hm (by decide +kernel) (pa_cons ha.h (pa_cons (pe_bltn (v:=.ty T) hgl2 hm2 hb rfl hxn hxd) pa_nil he2) he) (by decide) (by decide) he hpl pins s σ H Q I ?_
  obtain ⟨F,S,sk,o⟩:=q
  refine ⟨F,S,sk,outE.mb o fun r v F1 H1 e1 q1 o1=>?_⟩
  exact ⟨v,toD r,rfl,RR.rep e1.fh q1,o1 _ F1 H1 (Ext.refl e1.fh) rfl⟩
theorem kit_bool (K:PySem.W.Frag) (d:D):PySem.W.kitOne K (.type (tyN d)) (.type "bool")=some (isiB (tyN d) "bool"):=by cases d <;> rfl
theorem kit_int (K:PySem.W.Frag) (d:D):PySem.W.kitOne K (.type (tyN d)) (.type "int")=some (isiB (tyN d) "int"):=by cases d <;> rfl
theorem kit_tuple (K:PySem.W.Frag) (d:D):PySem.W.kitOne K (.type (tyN d)) (.type "tuple")=some (isiB (tyN d) "tuple"):=by cases d <;> rfl
theorem boot_b:bootBuiltins "bool" = some (.type "bool"):=by decide +kernel
theorem boot_i:bootBuiltins "int" = some (.type "int"):=by decide +kernel
theorem boot_t:bootBuiltins "tuple" = some (.type "tuple"):=by decide +kernel
variable {p p2:Pos}
theorem de_isi_bool (hgl:Gl X "isinstance") (hm:X.mg "isinstance" = none) (hgl2:Gl X "bool") (hm2:X.mg "bool" = none) (ha:DE X F0 H0 xq a fa) (he:starEach [a,.Name "bool" p2] X.env=(false,eval a X.env) :: starEach [.Name "bool" p2] X.env:=by rfl):DE X F0 H0 xq (.Call (.Name "isinstance" p) [a,.Name "bool" p2] [] pos) (dUn (uIsiT "bool") fa):=
  de_isi "bool" kit_bool boot_b (by decide) (by decide) hgl hm hgl2 hm2 ha he rfl rfl
theorem de_isi_int (hgl:Gl X "isinstance") (hm:X.mg "isinstance" = none) (hgl2:Gl X "int") (hm2:X.mg "int" = none) (ha:DE X F0 H0 xq a fa) (he:starEach [a,.Name "int" p2] X.env=(false,eval a X.env) :: starEach [.Name "int" p2] X.env:=by rfl):DE X F0 H0 xq (.Call (.Name "isinstance" p) [a,.Name "int" p2] [] pos) (dUn (uIsiT "int") fa):=
  de_isi "int" kit_int boot_i (by decide) (by decide) hgl hm hgl2 hm2 ha he rfl rfl
theorem de_isi_tuple (hgl:Gl X "isinstance") (hm:X.mg "isinstance" = none) (hgl2:Gl X "tuple") (hm2:X.mg "tuple" = none) (ha:DE X F0 H0 xq a fa) (he:starEach [a,.Name "tuple" p2] X.env=(false,eval a X.env) :: starEach [.Name "tuple" p2] X.env:=by rfl):DE X F0 H0 xq (.Call (.Name "isinstance" p) [a,.Name "tuple" p2] [] pos) (dUn (uIsiT "tuple") fa):=
  de_isi "tuple" kit_tuple boot_t (by decide) (by decide) hgl hm hgl2 hm2 ha he rfl rfl
noncomputable def bools:List D→Option (List Bool)
  | []=>some []
  | .bl b :: l=>(bools l).map (b :: ·)
  | _ :: _=>none
noncomputable def uAll:D→Option D
  | .lst l=>(bools l).map fun bs=>.bl (bs.all id)
  | _=>none
noncomputable def opIx:D→D→Option D
  | .tup l,.int i=>atI l i
  | .lst l,.int i=>atI l i
  | .scr l,.int i=>(atI l i).map .int
  | .str x,.int i=>if x.length ≤ big then (atI x.cps.toList i).map fun c=>.str ⟨#[c]⟩ else none
  | _,_=>none
theorem RepL.atI {K:PySem.W.Frag} {F:Hp} {l:List D} {vs:List V} {i:Int} {d:D} (r:RepL K F l vs) (h:L2.atI l i=some d):∃ v,L2.atI vs i=some v∧Rep K F d v:=by
  unfold L2.atI at h ⊢
  rw [← r.length]
  cases z:ixN l.length i with
  | none=>rw [z] at h; cases h
  | some j=>
    rw [z] at h
    exact r.get h
theorem atI_map {α β:Type} (f:α→β) (l:List α) (i:Int):L2.atI (l.map f) i=(L2.atI l i).map f:=by
  unfold L2.atI
  rw [List.length_map]
  cases ixN l.length i with
  | none=>rfl
  | some j=>simp
theorem opIx_ok:OpD X.K (rIx X.K) opIx:=fun F H d1 d2 d v1 v2 Q fh r1 r2 e q=>by
  cases d1 <;> cases d2 <;> first | (simp [opIx] at e; done) | skip
  · rename_i x i
    have e2:(if x.length ≤ big then (L2.atI x.cps.toList i).map fun c=>D.str ⟨#[c]⟩ else none)=some d:=e
    split at e2
    · rename_i hz
      cases z:L2.atI x.cps.toList i with
      | none=>rw [z] at e2; cases e2
      | some c=>
        rw [z] at e2
        have e':=Option.some.inj e2
        subst e'
        exact .inr (.inr ⟨x,i,c,r1,r2,big_le hz,z,q _ F H (Ext.refl fh) rfl⟩)
    · cases e2
  · rename_i l i
    obtain ⟨a,vs,rfl,ht,rl⟩:=r1
    obtain ⟨v,h1,h2⟩:=rl.atI e
    exact .inr (.inl ⟨a,vs,i,v,rfl,r2,SqT.same fh ht,h1,q v F H (Ext.refl fh) h2⟩)
  · rename_i l i
    obtain ⟨a,vs,rfl,ht,rl⟩:=r1
    obtain ⟨v,h1,h2⟩:=rl.atI e
    exact .inl ⟨a,vs,i,v,rfl,r2,SqL.of ht,h1,q v F H (Ext.refl fh) h2⟩
  · rename_i l i
    obtain ⟨a,rfl,ht⟩:=r1
    have e2:(L2.atI l i).map D.int=some d:=e
    cases z:L2.atI l i with
    | none=>rw [z] at e2; cases e2
    | some n=>
      rw [z] at e2
      have e':=Option.some.inj e2
      subst e'
      exact .inl ⟨a,l.map V.int,i,.int n,rfl,r2,fh.seq ht,by rw [atI_map,z]; rfl,q _ F H (Ext.refl fh) rfl⟩
theorem de_ix (ha:DE X F0 H0 xq a fa) (hb:DE X F0 H0 xq b fb) (hs:PlainIx b):DE X F0 H0 xq (.Subscript a b pos) (dBin opIx fa fb):=.mk fun pins s σ H Q I h=>pe_ix ix_seq ha.h hb.h hs pins s σ H Q I (tOp_of opIx_ok h)
noncomputable def dBinF (g:D→D→Option D) (fa fb:DS→M VR):DS→M (List D):=fun S=>mb (fa S) fun r1=>mb (fb S) fun r2=>match g (toD r1) (toD r2) with
  | some (.lst l)=>some (.ok l)
  | _=>none
theorem df_mul (ha:DE X F0 H0 xq a fa) (hb:DE X F0 H0 xq b fb):DF X F0 H0 xq (.BinOp a .Mult b pos) (dBinF opMul fa fb):=.mk fun pins s σ H Q I h=>by
  refine pe_op op_rep ha.h hb.h pins s σ H Q I ?_
  obtain ⟨F,S,st,o⟩:=h
  refine ⟨F,S,st,outE.mbF o fun r1 v1 F1 H1 e1 q1 o1=>?_⟩
  refine ⟨F1,S,st.step e1,outE.mbF o1 fun r2 v2 F2 H2 e2 q2 o2=>?_⟩
  have rv1:=RR.rv e2.fh (RR.step e2 q1)
  have rv2:=RR.rv e2.fh q2
  generalize toD r1=d1 at rv1 o2
  generalize toD r2=d2 at rv2 o2
  have key:∃ l k,d1=.lst l∧d2=.int k∧okRep l.length k=true:=by
    cases d1 <;> cases d2 <;> first | (exact False.elim o2) | skip
    · rename_i i j
      by_cases hz:okMul i j=true
      · simp only [opMul,if_pos hz] at o2; exact False.elim o2
      · simp only [opMul,if_neg hz] at o2; exact False.elim o2
    · rename_i i j
      by_cases hz:okRep i.length j=true
      · simp only [opMul,if_pos hz] at o2; exact False.elim o2
      · simp only [opMul,if_neg hz] at o2; exact False.elim o2
    · rename_i i j
      by_cases hz:okRep i.length j=true
      · exact ⟨i,j,rfl,rfl,hz⟩
      · simp only [opMul,if_neg hz] at o2; exact False.elim o2
  obtain ⟨l,k,rfl,rfl,hz⟩:=key
  simp only [opMul,if_pos hz] at o2
  obtain ⟨x,vs,rfl,ht,rl⟩:=rv1
  obtain ⟨b1,b2,b3⟩:=okRep_ok hz
  exact ⟨x,k,vs,rfl,rv2,ht,b1,b2,by rw [← rl.length]; exact b3,fun p hp=>o2 p _ F2 _ (ext_own e2.fh hp) hp (e2.fh.free hp) upd_same (rl.rep k.toNat)⟩
noncomputable def outO (xq:Addr→Hp→Prop) (F H:Hp) (Q:Option Int→Hp→Prop):M (Option Int)→Prop
  | none=>False
  | some (.error c)=>∀ H',Same H H'→xq c H'
  | some (.ok o)=>∀ F' H',Ext F H F' H'→Q o H'
noncomputable def tO (K:PySem.W.Frag) (F0 H0:Hp) (xq:Addr→Hp→Prop) (f:DS→M (Option Int)):TO:=fun σ H Q=>∃ F S,StOk K F0 H0 F H σ S∧outO xq F H Q (f S)
structure DO (X:Cx) (F0 H0:Hp) (xq:Addr→Hp→Prop) (e:Option Expr) (f:DS→M (Option Int)):Prop where
  mk ::
  h:PO X e (tO X.K F0 H0 xq f)
noncomputable def dNoPart:DS→M (Option Int):=fun _=>some (.ok none)
noncomputable def dPart (f:DS→M VR):DS→M (Option Int):=fun S=>mb (f S) fun r=>match r with
  | .ok (.int i)=>some (.ok (some i))
  | _=>none
theorem do_none:DO X F0 H0 xq none dNoPart:=.mk fun pins s σ H Q I ⟨F,S,sk,o⟩=>po_none pins s σ H Q I (o F H (Ext.refl sk.ext.fh))
theorem outO.step {F H F' H':Hp} {Q:Option Int→Hp→Prop} {x:M (Option Int)} (e:Ext F H F' H') (h:outO xq F H Q x):outO xq F' H' Q x:=by
  match x,h with
  | some (.error c),h=>exact fun H2 s=>h H2 (e.hh.trans s)
  | some (.ok b),h=>exact fun F2 H2 e2=>h F2 H2 (e.trans e2)
theorem do_some (h:DE X F0 H0 xq a fa):DO X F0 H0 xq (some a) (dPart fa):=.mk fun pins s σ H Q I q=>by
  refine po_some h.h pins s σ H Q I ?_
  obtain ⟨F,S,sk,o⟩:=q
  refine ⟨F,S,sk,outE.bind (G:=fun F H z=>outO xq F H Q z) (fun e h=>outO.step e h) (fun _ _ h=>h) (fun _ _ _ h=>h) o fun r v F1 H1 e1 q1 o1=>?_⟩
  cases r with
  | bor l=>exact False.elim o1
  | bod ks l=>exact False.elim o1
  | ok d=>
    cases d with
    | int i=>exact ⟨i,q1,o1 F1 H1 (Ext.refl e1.fh)⟩
    | _=>exact False.elim o1
noncomputable def rSlT2 (K:PySem.W.Frag):V→Option Int→Option Int→Hp→VK→Prop:=fun x lo hi H Q=>∃ a xs,x=.ref a∧SqT K H a xs∧(cutV xs lo hi=xs→Q (.ref a) H)∧∀ p,H p=none→Q (.ref p) (upd H p (.tup (cutV xs lo hi)))
theorem sl_tup2:SlR X (rSlT2 X.K):=by
  intro pins s σ H x v vl vu lo hi sl Q I rx hs pl pu h
  obtain ⟨a,xs,rfl,hx,q1,q2⟩:=h
  by_cases hw:HT.sIx xs.length 0 lo=0∧HT.sIx xs.length xs.length hi=xs.length
  · cases rx
    obtain ⟨its,r,ht,hz⟩:=I.tuple hx
    have hlen:its.toArray.size=xs.length:=by rw [List.size_toArray]; exact r.length.symm
    refine ⟨"tuple",_,PyProof.Rows.slot_tuple_getitem.lookup,ht.typeIs,?_⟩
    have ecut:cutV xs lo hi=xs:=by
      unfold cutV
      rw [hw.1,hw.2,List.drop_zero,Nat.sub_zero,List.take_length]
    refine getItem_tuple_by (lo:=((HT.sIx xs.length 0 lo:Nat):Int)) (step:=1) (n:=HT.sIx xs.length xs.length hi - HT.sIx xs.length 0 lo) ht hs (fun A' Q' E' h=>?_) ?_ (fun _=>⟨.ref a,H,I,rfl,q1 ecut⟩) (fun h=>?_)
    · rw [hlen]
      exact HT.sliceApplied_gen hs pl pu h
    · refine Nat.le_trans (List.length_filterMap_le _ _) ?_
      rw [List.length_range]
      have:=HT.sIx_le xs.length xs.length (Nat.le_refl _) hi
      omega
    · rw [hw.1,hw.2,hlen] at h
      simp at h
  · exact sl_tup pins s σ H (.ref a) v vl vu lo hi sl Q I rx hs pl pu ⟨a,xs,rfl,hx,hw,q2⟩
noncomputable def cutD {α:Type} (xs:List α) (lo hi:Option Int):List α:=(xs.drop (HT.sIx xs.length 0 lo)).take (HT.sIx xs.length xs.length hi - HT.sIx xs.length 0 lo)
noncomputable def sliceD (d:D) (lo hi:Option Int):Option D:=match d with
  | .tup l=>some (.tup (cutD l lo hi))
  | .lst l=>some (.lst (cutD l lo hi))
  | _=>none
noncomputable def dSlice (f:DS→M VR) (fl fh:DS→M (Option Int)):DS→M VR:=fun S=>mb (f S) fun r=>mb (fl S) fun lo=>mb (fh S) fun hi=>vr (sliceD (toD r) lo hi)
theorem RepL.cut {K:PySem.W.Frag} {F:Hp} {l:List D} {vs:List V} (r:RepL K F l vs) (lo hi:Option Int):RepL K F (cutD l lo hi) (cutV vs lo hi):=by
  unfold cutD cutV
  rw [r.length]
  exact (r.drop _).take _
theorem outO.bind {x:M (Option Int)} {F H:Hp} {Q1:Option Int→Hp→Prop} {β:Type} {k:Option Int→M β} {G:Hp→Hp→M β→Prop} (gs:∀ {F H F' H':Hp} {z:M β},Ext F H F' H'→G F H z→G F' H' z) (gn:∀ F H,G F H none→False) (ge:∀ F H c,G F H (some (.error c))→∀ H',Same H H'→xq c H')
    (h:G F H (mb x k)) (hq:∀ b F1 H1,Ext F H F1 H1→G F1 H1 (k b)→Q1 b H1):outO xq F H Q1 x:=by
  match x,h with
  | none,h=>exact gn _ _ h
  | some (.error c),h=>exact ge _ _ c h
  | some (.ok b),h=>exact fun F1 H1 e=>hq b F1 H1 e (gs e h)
theorem de_slice {lo hi:Option Expr} {fl fh:DS→M (Option Int)} (ha:DE X F0 H0 xq a fa) (hl:DO X F0 H0 xq lo fl) (hh:DO X F0 H0 xq hi fh):DE X F0 H0 xq (.Subscript a (.Slice lo hi none p2) pos) (dSlice fa fl fh):=.mk fun pins s σ H Q I q=>by
  refine pe_slice (SlR.or sl_tup2 sl_list) ha.h hl.h hh.h pins s σ H Q I ?_
  obtain ⟨F,S,sk,o⟩:=q
  refine ⟨F,S,sk,outE.mb o fun r v F1 H1 e1 q1 o1=>?_⟩
  refine ⟨F1,S,sk.step e1,outO.bind (G:=fun F H z=>outE X.K H0 xq F H Q z) (fun e h=>h.step e) (fun _ _ h=>h) (fun _ _ _ h=>h) o1 fun lo F2 H2 e2 o2=>?_⟩
  refine ⟨F2,S,(sk.step e1).step e2,outO.bind (G:=fun F H z=>outE X.K H0 xq F H Q z) (fun e h=>h.step e) (fun _ _ h=>h) (fun _ _ _ h=>h) o2 fun hi F3 H3 e3 o3=>?_⟩
  have rv:=RR.rv e3.fh (RR.step e3 (RR.step e2 q1))
  generalize toD r=d at rv o3
  cases d <;> first | (exact False.elim o3) | skip
  · rename_i l
    obtain ⟨x,vs,rfl,ht,rl⟩:=rv
    have o4:outE X.K H0 xq F3 H3 Q (some (.ok (.ok (.tup (cutD l lo hi))))):=o3
    refine .inl ⟨x,vs,rfl,SqT.same e3.fh ht,fun z=>?_,fun p hp=>?_⟩
    · have rc:=rl.cut lo hi
      rw [z] at rc
      exact o4 _ F3 H3 (Ext.refl e3.fh) ⟨x,vs,rfl,ht,rc⟩
    · exact o4 _ _ _ (ext_alloc e3.fh hp) ⟨p,_,rfl,SqT.of upd_same,(rl.cut lo hi).mono (same_upd (e3.fh.free hp))⟩
  · rename_i l
    obtain ⟨x,vs,rfl,ht,rl⟩:=rv
    have o4:outE X.K H0 xq F3 H3 Q (some (.ok (.ok (.lst (cutD l lo hi))))):=o3
    exact .inr ⟨x,vs,rfl,SqL.of ht,fun p hp=>o4 _ _ _ (ext_alloc e3.fh hp) ⟨p,_,rfl,upd_same,(rl.cut lo hi).mono (same_upd (e3.fh.free hp))⟩⟩
noncomputable def uRev:D→Option D
  | .tup l=>some (.tup l.reverse)
  | _=>none
end
end PF
set_option Elab.async false
set_option linter.all false
set_option maxRecDepth 100000
set_option maxHeartbeats 4000000
namespace PF
open PySem PySem.Spec L2
open PyProof.Rows hiding St
section
variable {prog:Program} {w:World} {A:Around} {E:Value→Shared→Prop} {s:Shared}
end
section
variable {X:Cx} {F0 H0:Hp} {xq:Addr→Hp→Prop} {pos:Pos}
noncomputable def enumD (l:List D):List D:=(List.range l.length).map fun (k:Nat)=>D.tup [.int (k:Int),l.getD k .non]
noncomputable def dEnum (f:DS→M VR):DS→M (List D):=fun S=>mb (f S) fun r=>match items r with
  | some l=>some (.ok (enumD l))
  | none=>none
end
end PF
set_option Elab.async false
set_option linter.all false
set_option maxRecDepth 100000
set_option maxHeartbeats 4000000
namespace PF
open PySem PySem.Spec L2
open PyProof.Rows hiding St
section
variable {X:Cx} {F0 H0:Hp} {xq:Addr→Hp→Prop} {pos:Pos} {a b c e:Expr} {fa fb fc:DS→M VR}
noncomputable def opMax:D→D→Option D
  | .int i,.int j=>some (.int (if j > i then j else i))
  | _,_=>none
noncomputable def isNon:D→Bool
  | .non=>true
  | _=>false
noncomputable def uIsN:D→Option D:=fun d=>some (.bl (isNon d))
theorem rv_non {K:PySem.W.Frag} {F H:Hp} {d:D} {v:V} (r:RV K F H d v):decide (v=.non)=isNon d:=by
  cases d with
  | non=>cases r; rfl
  | bl b=>cases r; rfl
  | int b=>cases r; rfl
  | str b=>cases r; rfl
  | tup l=>obtain ⟨a,vs,rfl,_⟩:=r; rfl
  | lst l=>obtain ⟨a,vs,rfl,_⟩:=r; rfl
  | scr l=>obtain ⟨a,rfl,_⟩:=r; rfl
  | dic ks l=>obtain ⟨a,kvs,rfl,_⟩:=r; rfl
theorem tIsN_of {K:PySem.W.Frag} {r:R2} {g:D→Option D} {σ:St} {H:Hp} {Q:VK} (hg:∀ (F H:Hp) (d1 d:D) (v1:V) (Q:VK),Same F H→RV K F H d1 v1→g d1=some d→(∀ v F' H',Ext F H F' H'→Rep K F' d v→Q v H')→r v1 .non H Q)
    (h:tE K F0 H0 xq (dUn g fa) σ H Q):tOp r (tE K F0 H0 xq fa) (tC .non) σ H Q:=tUn_of (r:=fun x H Q=>r x .non H Q) hg h
theorem de_isN {j:Nat} {p:Pos} (ha:DE X F0 H0 xq a fa):DE X F0 H0 xq (.Compare a [.Is] [.Constant .none j p] pos) (dUn uIsN fa):=.mk fun pins s σ H Q I q=>
  pe_cmpR op_isN ha.h pe_non (nomark _) pins s σ H Q I (tIsN_of (fun F H d1 d v1 Q fh r g q=>⟨rfl,by rw [rv_non r]; injection g with g; subst g; exact q _ F H (Ext.refl fh) rfl⟩) q)
theorem dt_isN {j:Nat} {p:Pos} (ha:DE X F0 H0 xq a fa):DT X F0 H0 xq (.Compare a [.Is] [.Constant .none j p] pos) (dtB (dUn uIsN fa)):=.mk fun pins s σ H Q I q=>
  pt_cmpR op_isN ha.h pe_non (nomark _) pins s σ H Q I (tIsN_of (fun F H d1 d v1 Q fh r g q=>⟨rfl,by rw [rv_non r]; injection g with g; subst g; exact q _ F H (Ext.refl fh) rfl⟩) (tTest_of q))
noncomputable def dPop (i:Nat):DS→Option Fl:=fun S=>match S[i]? with
  | some (some (.own l))=>if l.length=0 then none else some (.next (S.set i (some (.own l.dropLast))))
  | _=>none
theorem own_of {S:DS} {i:Nat} {β:Type} {k:List D→Option β} {P:Option β→Prop} (hn:¬ P none) (o:P (match S[i]? with | some (some (.own l))=>k l | _=>none)):∃ l,S[i]?=some (some (Slot.own l))∧P (k l):=by
  cases z:S[i]? with
  | none=>rw [z] at o; exact absurd o hn
  | some z1=>
    cases z1 with
    | none=>rw [z] at o; exact absurd o hn
    | some sl=>
      cases sl with
      | val d=>rw [z] at o; exact absurd o hn
      | owd ks l=>rw [z] at o; exact absurd o hn
      | own l=>rw [z] at o; exact ⟨l,rfl,o⟩
theorem ds_pop (i:Nat) {x:Str} {p apos cpos:Pos} (hN:X.N[i]?=some x:=by rfl) (hv:Vis X.env.scope x:=by first | exact Or.inl rfl | exact Or.inr (Or.inl rfl) | exact Or.inr (Or.inr rfl))
    (hd:(x == ("__debug__" : Str))=false:=by decide) (hcd:(x == ("__classdict__" : Str))=false:=by decide)
    (hbase:attributeBase (.Name x p) "pop" X.env (eval (.Name x p) X.env)=eval (.Name x p) X.env:=by rfl) (hline:(apos.endLine == cpos.line)=true:=by rfl)
    (hsw:swapsWith (.Call (.Attribute (.Name x p) "pop" apos) [] [] cpos) none pos.line X.env=pure false:=by rfl) :
    DS1 X F0 H0 xq (.Expr (.Call (.Attribute (.Name x p) "pop" apos) [] [] cpos) pos) (dPop i):=.mk fun pins s σ H Dn I q=>by
  refine ps_expr (pe_bm0 PySem.F.plainAttrs_list PySem.F.slot_list_pop PySem.F.type_list_pop mt_pop (pe_var hN hv hd hcd) hbase hline) hsw pins s σ H Dn I ?_
  obtain ⟨F,S,sk,o⟩:=q
  have o:outS X.K F0 H0 xq Dn (match S[i]? with | some (some (.own l))=>(if l.length=0 then none else some (.next (S.set i (some (.own l.dropLast))))) | _=>none):=o
  obtain ⟨l,z,o⟩:=own_of (S:=S) (i:=i) (P:=fun y=>outS X.K F0 H0 xq Dn y) (k:=fun l=>if l.length=0 then none else some (.next (S.set i (some (.own l.dropLast))))) (fun h=>h) o
  obtain ⟨a,vs,h1,h2,h3,h4,h5⟩:=sk.own i l z
  by_cases hz:l.length=0
  · rw [if_pos hz] at o; exact False.elim o
  · rw [if_neg hz] at o
    have hlen:=h5.length
    obtain ⟨y,hy⟩:∃ y,vs[vs.length - 1]?=some y:=⟨vs[vs.length - 1]'(by omega),List.getElem?_eq_getElem _⟩
    exact ⟨.ref a,h1,.inl ⟨rfl,vs,SqL.of h4⟩,a,vs,y,rfl,rfl,h4,hy,o σ F _ (sk.mut z h1 h5.dropLast)⟩
noncomputable def dUnp (set:D→DS→Option DS) (f:DS→M VR):DS→Option Fl:=fun S=>liftE (f S) fun r=>match r with
  | .ok d=>match set d S with
    | some S'=>some (.next S')
    | none=>none
  | _=>none
theorem ds_unp {tg:Expr} {set:D→DS→Option DS} {f:DS→M VR} (he:DE X F0 H0 xq e f) (hg:DG X F0 H0 tg set) (hs:swapsWithSole [tg] e pos.line X.env=pure false:=by rfl) (hw:swappedStores [tg] e X.env=pure none:=by rfl)
    (h1:(assignEach [tg] X.env).map (·.2)=[assign tg X.env]:=by rfl):DS1 X F0 H0 xq (.Assign [tg] e pos) (dUnp set f):=.mk fun pins s σ H Dn I q=>by
  refine ps_asg he.h hg.h hs hw h1 pins s σ H Dn I ?_
  obtain ⟨F,S,sk,o⟩:=q
  refine ⟨F,S,sk,outE_of sk o fun r v F1 H1 e1 q1 o1=>?_⟩
  cases r with
  | bor l=>exact False.elim o1
  | bod ks l=>exact False.elim o1
  | ok d=>
    refine ⟨F1,S,d,sk.step e1,q1,?_⟩
    have o1:outS X.K F0 H0 xq Dn (match set d S with | some S'=>some (.next S') | none=>none):=o1
    cases z:set d S with
    | none=>rw [z] at o1; exact False.elim o1
    | some S'=>rw [z] at o1; exact fun σ' F' H' _ k=>o1 σ' F' H' k
end
end PF
set_option Elab.async false
set_option linter.all false
set_option maxRecDepth 100000
set_option maxHeartbeats 4000000
namespace PF
open PySem PySem.Spec L2
open PyProof.Rows hiding St
noncomputable def Itd (lo:Int) (n:Nat):It:=⟨fun i _=>i < n,fun i H x H'=>H'=H∧x=.int (lo - i),fun i _=>n ≤ i⟩
theorem turn_down {P:Program} {w:World} {K:PySem.W.Frag} {tg:Expr} (it:Addr) (lo:Int) (n:Nat):Turn P w K tg (Itd lo n) [it] it (fun i h=>IsRangeIter h it (lo + (i:Nat) * (-1)) ((n:Int) - (i:Nat)) (-1)) where
  mem:=by simp
  obj:=fun i h st b hb=>by
    have z:b=it:=by simpa using hb
    subst z
    exact ⟨_,st,fun v z=>by
      have y:Data.fields _=Data.cell v:=z
      cases y⟩
  keep:=fun i h h' st k=>k it (by simp) _ st
  item:=by
    intro X hP hw hK hc i pins s σ H E I hf st hg
    subst hP hw hK
    have f:=hf it (by simp)
    refine (Walks.range (prog:=X.prog) (w:=X.w) (I.ok.hd hc) it lo (-1) n).item i s _ _ hg st fun v h' tk hv st' kk=>?_
    obtain ⟨t,rfl⟩:=hv
    have I1:Inv X pins σ H { s with heap:=h',toks:=tk }:=I.turned (fun b o hb e=>kk b o (by simpa using hb) e) f.1 f.2.1 f.2.2.2.1 f.2.2.2.2.1 f.2.2.2.2.2
    refine ⟨_,rfl,go_of (s:={ s with heap:=h',toks:=tk }) (n := "range_iterator") st' rfl rfl (by decide) ⟨.int (lo - i),H,I1,⟨t,?_⟩,⟨rfl,rfl⟩,st',fun b hb=>(hf b hb).1⟩⟩
    rw [Int.mul_neg_one,Int.sub_eq_add_neg]
  done:=by
    intro X hP hw hK hc i pins s σ H E I hf st hg
    subst hP hw hK
    have f:=hf it (by simp)
    exact wpAny_pyNext_range_end (I.ok.hd hc) st (by have q:n ≤ i:=hg; (clear f hg st hf I hc; omega)) fun h' eb=>⟨rfl,I.turned (t':=s.toks) (fun b o hb e=>eb b o hb e) f.1 f.2.1 f.2.2.2.1 f.2.2.2.2.1 f.2.2.2.2.2⟩
  self:=fun _ _ _ _ _ st h=>wpAny_pyIter_rangeiter st h
theorem size_down (a b:Int):Builtin.Range.rangeSize a b (-1)=if a > b then a - b else 0:=by
  unfold Builtin.Range.rangeSize
  rw [if_neg (by decide)]
  have e:-(-1:Int)=1:=by decide
  rw [e,Int.ediv_one]
  split <;> (clear e; omega)
theorem small_down {a b:Int} (ha:-(2 ^ 62) ≤ a) (ha':a < 2 ^ 62) (hb:-(2 ^ 62) ≤ b) (hb':b < 2 ^ 62):Builtin.Range.small a b (-1)=true:=by
  unfold Builtin.Range.small
  rw [size_down]
  simp only [Builtin.Range.rangeFitsLong,Bool.and_eq_true,Bool.or_eq_true,decide_eq_true_eq,beq_iff_eq,show ¬ ((-1:Int) > 0) by decide,if_false]
  split <;> omega
noncomputable def downD (lo hi:Int):List D:=(List.range (lo - hi).toNat).map fun (k:Nat)=>D.int (lo - (k:Int))
theorem ItOk.down {K:PySem.W.Frag} {Fb:Hp} (lo hi:Int):ItOk K (Itd lo (lo - hi).toNat) Fb (downD lo hi) where
  go:=fun i F H hi' _ _=>by
    show i < (lo - hi).toNat
    simpa [downD] using hi'
  yld:=fun i F H x H' e1 e2 y d hd=>by
    obtain ⟨rfl,rfl⟩:=y
    unfold downD at hd
    rw [List.getElem?_map] at hd
    cases q:(List.range (lo - hi).toNat)[i]? with
    | none=>rw [q] at hd; cases hd
    | some j=>
      rw [q] at hd
      obtain ⟨h1,h2⟩:=List.getElem?_eq_some_iff.mp q
      rw [List.getElem_range] at h2
      subst h2
      simp at hd
      subst hd
      exact ⟨F,Ext.refl e2,rfl⟩
  stop:=fun i F H hi' _ _=>by
    show (lo - hi).toNat ≤ i
    simpa [downD] using hi'
section
variable {X:Cx} {F0 H0:Hp} {xq:Addr→Hp→Prop} {pos:Pos} {a b c e tg:Expr} {fa fb fc:DS→M VR}
noncomputable def iDown (ta:TA):TI:=fun σ H R=>ta σ H fun vs H1=>∃ i j:Int,vs=[.int i,.int j,.int (-1)]∧(-(2 ^ 62) ≤ i∧i < 2 ^ 62∧-(2 ^ 62) ≤ j∧j < 2 ^ 62)∧R (Itd i (i - j).toNat) H1
theorem pi_down {ta:TA} {p:Pos} (hg:Gl X "range") (hm:X.mg "range" = none) (ha:PA X [a,b,c] ta) (hs:starEach [a,b,c] X.env=(false,eval a X.env) :: starEach [b,c] X.env) (hp:(backTo pos (starEach [b,c] X.env)).any (·.1)=false):PI X tg (.Call (.Name "range" p) [a,b,c] [] pos) (iDown ta):=by
  intro pins s σ H R I h
  refine Call_ (ld_blt I hg hm boot_range (PyProof.Rows.callWith_type1 (thn (ha pos pins s σ H _ I h) fun us s1 ⟨vs,H1,I1,r1,q1⟩=>?_) hs hp))
  obtain ⟨i,j,e,⟨q1,q2,q3,q4⟩,q⟩:=q1
  subst e
  obtain ⟨t,t',t'',rfl⟩:∃ t t' t'',us=[.int i t,.int j t',.int (-1) t'']:=by
    cases r1 with
    | cons r rr=>
      cases rr with
      | cons r' rr=>
        cases rr with
        | cons r'' rr=>
          cases rr
          obtain ⟨t,rfl⟩:=r
          obtain ⟨t',rfl⟩:=r'
          obtain ⟨t'',rfl⟩:=r''
          exact ⟨t,t',t'',rfl⟩
  · skip
    refine call_range_3 (by decide) ?_ (.inl (PyProof.noPylong_small (by decide)))
    refine wpAny_pyIter_range (IsRange.new ..) (small_down q1 q2 q3 q4) ?_
    have I2:Inv X pins σ H1 { s1 with heap:=s1.heap.push { cls:=.type "range",data:=.fields #[.int i t,.int j t',.int (-1) t''] },toks:=s1.toks }:=I1.kept fun b o e=>Heap.get?_push_of_some _ e
    refine ⟨_,[(s1.heap.push { cls:=.type "range",data:=.fields #[.int i t,.int j t',.int (-1) t''] }).objs.size],_,_,H1,rfl,I2.kept (t':=s1.toks) fun b o e=>Heap.get?_push_of_some _ e,turn_down _ i (i - j).toNat,?_,fun b hb=>?_,q⟩
    · have e1:i + ((0:Nat):Int) * (-1)=i:=by simp
      have e2:(((i - j).toNat:Nat):Int) - ((0:Nat):Int)=Builtin.Range.rangeSize i j (-1):=by
        rw [size_down]
        split <;> (clear e1 I2 r1 q4 q3 q2 q1 q I1 h I hp hs ha hm hg; omega)
      show IsRangeIter _ _ (i + ((0:Nat):Int) * (-1)) ((((i - j).toNat:Nat):Int) - ((0:Nat):Int)) (-1)
      rw [e1,e2]
      exact Heap.get?_push_size _ rfl
    · have z:b=(s1.heap.push { cls:=.type "range",data:=.fields #[.int i t,.int j t',.int (-1) t''] }).objs.size:=by simpa using hb
      subst z
      exact I2.fpOk (Nat.le_refl _) (I2.hok.fresh (Nat.le_refl _))
noncomputable def asInt:VR→Option Int
  | .ok (.int i)=>some i
  | _=>none
theorem asInt_of {r:VR} {i:Int} (h:asInt r=some i):r=.ok (.int i):=by
  cases r with
  | bor l=>cases h
  | bod ks l=>cases h
  | ok d=>cases d <;> first | (injection h with h; subst h; rfl) | cases h
noncomputable def down3 (x y z:Option Int):M (List D):=match x with
  | none=>none
  | some i=>match y with
    | none=>none
    | some j=>if rOk i=true∧rOk j=true∧z=some (-1) then some (.ok (downD i j)) else none
noncomputable def dRange3 (fs:DS→M (List VR)):DS→M (List D):=fun S=>mb (fs S) fun rs=>match rs with
  | [x,y,z]=>down3 (asInt x) (asInt y) (asInt z)
  | _=>none
theorem di_range3 {p:Pos} {fs:DS→M (List VR)} (hg:Gl X "range") (hm:X.mg "range" = none) (h:DA X F0 H0 xq [a,b,c] fs) (sa:unst a=true:=by rfl) (sb:unst b=true:=by rfl) (sc:unst c=true:=by rfl):DI X F0 H0 xq tg (.Call (.Name "range" p) [a,b,c] [] pos) (dRange3 fs):=.mk fun pins s σ H R I q=>by
  refine pi_down hg hm h.h (star_cons sa) (by rw [star_cons sb,star_cons sc]; rfl) pins s σ H R I ?_
  obtain ⟨F,S,sk,o⟩:=q
  refine ⟨F,S,sk,outA.bind (G:=fun F H z=>outI X.K xq F H R z) (fun e h=>outI.step e h) (fun _ _ h=>h) (fun _ _ _ h=>h) o fun rs vs F1 H1 e1 q1 o1=>?_⟩
  cases rs with
  | nil=>exact False.elim o1
  | cons x rs=>
    cases rs with
    | nil=>exact False.elim o1
    | cons y rs=>
      cases rs with
      | nil=>exact False.elim o1
      | cons z rs=>
        cases rs with
        | cons _ _=>exact False.elim o1
        | nil=>
          have o1:outI X.K xq F1 H1 R (down3 (asInt x) (asInt y) (asInt z)):=o1
          cases ex:asInt x with
          | none=>rw [ex] at o1; exact False.elim o1
          | some i=>
            cases ey:asInt y with
            | none=>rw [ex,ey] at o1; exact False.elim o1
            | some j=>
              rw [ex,ey] at o1
              have o1:outI X.K xq F1 H1 R (if rOk i=true∧rOk j=true∧asInt z=some (-1) then some (.ok (downD i j)) else none):=o1
              by_cases hz:rOk i=true∧rOk j=true∧asInt z=some (-1)
              · rw [if_pos hz] at o1
                obtain ⟨z1,z2,z3⟩:=hz
                obtain ⟨v,t,rfl,r1,v2,t2,rfl,r2,v3,t3,rfl,r3,rfl⟩:=q1
                rw [asInt_of ex] at r1
                rw [asInt_of ey] at r2
                rw [asInt_of z3] at r3
                cases r1
                cases r2
                cases r3
                exact ⟨i,j,rfl,⟨(rOk_iff z1).1,(rOk_iff z1).2,(rOk_iff z2).1,(rOk_iff z2).2⟩,o1 _ F1 H1 (Ext.refl e1.fh) (ItOk.down i j)⟩
              · rw [if_neg hz] at o1; exact False.elim o1
end
end PF
set_option Elab.async false
set_option linter.all false
set_option maxRecDepth 100000
set_option maxHeartbeats 4000000
namespace PF
open PySem PySem.Spec L2
open PyProof.Rows hiding St
section
variable {X:Cx} {F0 H0:Hp} {xq:Addr→Hp→Prop} {pos:Pos} {a b:Expr} {fa fb:DS→M VR}
end
end PF
set_option Elab.async false
set_option linter.all false
set_option maxRecDepth 100000
set_option maxHeartbeats 4000000
namespace PF
open PySem PySem.Spec L2
open PyProof.Rows hiding St
end PF
set_option Elab.async false
set_option linter.all false
set_option maxRecDepth 100000
set_option maxHeartbeats 4000000
namespace PF
open PySem PySem.Spec L2
open PyProof.Rows hiding St
section
variable {prog:Program} {w:World} {A:Around} {E:Value→Shared→Prop} {s:Shared}
end
section
variable {X:Cx} {F0 H0:Hp} {xq:Addr→Hp→Prop} {pos:Pos} {e tg:Expr}
end
end PF
set_option Elab.async false
set_option linter.all false
set_option maxRecDepth 100000
set_option maxHeartbeats 4000000
namespace PF
open PySem PySem.Spec L2
open PyProof.Rows hiding St
theorem pass0' {X:Cx} {xq:Addr→Hp→Prop}:Passes CX0 X (Ex xq):=fun _ _ _ _ _ _ _ h=>h.elim
theorem free_by {names:List (Str × NameKind)} {f:Str→Option NameKind} (h:(names.all fun y=>match y.2 with | .free=>(match f y.1 with | some .cell=>true | some .free=>true | _=>false) | _=>true)=true):∀ y ∈ names,y.2=.free→f y.1=some .cell∨f y.1=some .free:=by
  intro y hy e
  have q:=List.all_eq_true.mp h y hy
  rw [e] at q
  simp only at q
  split at q
  · rename_i z; exact .inl z
  · rename_i z; exact .inr z
  · cases q
noncomputable def okM:M D→M D
  | some (.ok d)=>some (.ok d)
  | _=>none
theorem okM_hg {m:List D→M D} {x:List D→M D} (h:m=fun ds=>okM (x ds)) {n:Nat}:∀ ds r,ds.length=n→m ds=some r→∃ d,r=.ok d∧x ds=some (.ok d):=by
  subst h
  intro ds r _ e
  simp only at e
  cases q:x ds with
  | none=>rw [q] at e; cases e
  | some y=>
    rw [q] at e
    cases y with
    | error c=>cases e
    | ok d=>injection e with e; subst e; exact ⟨d,rfl,rfl⟩
theorem walkM {l:PySem.W.OpenLaw} {k:Nat} {q:Program} {loose:List Str} {XP:(Str→Option Value)→Heap→Prop} {YP:World→Heap→Prop} {d:DefRec} {K:Params→PySem.W.Frag} {m:List D→M D} {x:Str} (hr:Room k callerA) (hn:l.most=some 63) (hdf:d.params.defaults=[])
    (hm:∀ ns:List Int,ns.length ≤ 63→m [.scr ns]=some (.ok (.bl true)))
    (hY:∀ (w:World) (h:Heap),YP w h→(K w.params).In h)
    (F:∀ (w:World) (mg:Str→Option Value) (fa:Addr) (h:Heap),(K w.params).In h→h.Ns mainGlobals mg→mg d.name=some (.ref fa)→
      ∃ fd:FuncData,(∀ (s:Shared) (u:Value),BindsTo s fd ⟨[u],[]⟩ [(x,u)])∧∀ base:Heap,(K w.params).In base→base.Ns mainGlobals mg→FnOk l.prog w (K w.params) mg base CX0 k fa fd [x] (spM (K w.params) 1 m)) :
    PySem.W.WalkO q loose XP YP l.row.toRowW d [] (fun f vs=>PySem.call f vs):=
  L2.walk_of (n:=63) (k:=k) (x:=x) (CX:=fun _=>CX0) (sp:=fun w=>spM (K w.params) 1 m) hn (by decide) hdf hr hY F
    (fun w H a ns hl _ hS=>⟨H,[.scr ns],Same.refl _,RepL.one ⟨a,rfl,hS⟩,rfl,by rw [hm ns hl]; exact fun v F' H' _ r=>r⟩) fun _ _ _ _ _ z=>z
end PF
namespace PF
open PySem PySem.Spec L2
end PF
namespace PF
open PySem
noncomputable def startN (n:Nat) (ds:List D):DS:=ds.map (fun d=>some (Slot.val d)) ++ List.replicate (n - ds.length) none
end PF
set_option Elab.async false
set_option linter.all false
set_option maxRecDepth 100000
set_option maxHeartbeats 4000000
namespace PF
open PySem PySem.Spec L2
open PyProof.Rows hiding St
section
variable {M:Model} {A:Around} {E:Value→Shared→Prop} {s:Shared}
theorem dict_map (o:Obj) (f):(o.mapFields f).dict=o.dict:=by
  unfold Obj.mapFields; split <;> rfl
theorem entry_ok {base:Heap} {env:Env} {outer:List Env} {L e:Addr} {oe:Obj} {vs:Array Value} {head:Value} {had:Bool} {Q:Unit→Shared→Prop} (hfr:A.frames=some (env :: outer)) (hl:s.heap.FunFrames base (env :: outer)) (hf:env.frame=some L)
    (he:s.heap.get? e=some oe) (hd:oe.data=.fields vs) (hsz:1 < vs.size)
    (h:∀ h' T oT ts,s.heap.objs.size ≤ T→(∀ b o,b ∉ frs (env :: outer)→b ≠ e→s.heap.get? b=some o→h'.get? b=some o)→(∀ b o,b ≠ e→s.heap.get? b=some o→∃ sl,h'.get? b=some { o with slots:=sl })→
      h'.get? e=some (oe.mapFields (·.setIfInBounds 1 (.ref T)))→h'.get? T=some oT→oT.data=.fields ts→ts[3]?=some (rawInt L)→Q () { s with heap:=h' }) :
    wpAny M A (do let a ← frameOf env; let pl ← entryPlaceOf L had; let b ← EntryCells.newEntry head a .none (rawInt L) .none pl; setField (.ref e) 1 b) Q E s:=by
  have hen:e ∉ frs (env :: outer):=fun hm=>by
    obtain ⟨_,o,ho,hnf⟩:=hl.mem hm
    rw [he] at ho; cases ho; exact hnf vs hd
  refine wpAny_bind (wpAny_frameOf_fun hfr hl hf fun h1 s1=>wpAny_bind (wpAny_entryPlaceOf fun pl hpl=>?_))
  unfold EntryCells.newEntry newFields; refine wpAny_bind (wpAny_newObj_type ?_ (hpl.sizeOk5 _ _ _ _ _))
  have e1:h1.get? e=some oe:=(s1.2.1 e hen).trans he
  obtain ⟨oT,hoT⟩:∃ oT:Obj,oT={ cls:=.type "traceback",dict:=none,data:=.fields ([head,.ref L,.none,rawInt L,.none] ++ (if pl.isEmpty then List.replicate 6 Value.none else pl)).toArray }:=⟨_,rfl⟩
  rw [← hoT]
  have e2:=Heap.get?_push_of_some (h:=h1) oT e1
  refine wpAny_setField e2 hd hsz ?_
  have nT:h1.objs.size ≠ e:=Nat.ne_of_gt (Heap.lt_size e1)
  have d3:=Obj.data_mapFields hd (·.setIfInBounds 1 (Value.ref h1.objs.size))
  have e3:=Heap.get?_update_self (Obj.mapFields (·.setIfInBounds 1 (Value.ref h1.objs.size))) e2 (Obj.isFreed_of_fields d3)
  have up:∀ b o,b ≠ e→h1.get? b=some o→((h1.push oT).update e (Obj.mapFields (·.setIfInBounds 1 (Value.ref h1.objs.size)))).get? b=some o:=fun b o nb hb=>by
    rw [Heap.get?_update_other _ _ (Ne.symm nb)]; exact Heap.get?_push_of_some _ hb
  have hT:((h1.push oT).update e (Obj.mapFields (·.setIfInBounds 1 (Value.ref h1.objs.size)))).get? h1.objs.size=some oT:=by
    rw [Heap.get?_update_other _ _ (Ne.symm nT)]; exact Heap.get?_push_size h1 (by rw [hoT]; rfl)
  refine h _ h1.objs.size oT _ (Nat.le_of_eq s1.1.symm) (fun b o n1 n2 hb=>up b o n2 ((s1.2.1 b n1).trans hb)) (fun b o n hb=>?_) e3 hT (by rw [hoT]) (by simp)
  obtain ⟨sl,z⟩:=s1.2.2 b o hb
  exact ⟨sl,up b _ n z⟩
noncomputable def IsExc (h:Heap) (e C T:Addr) (fl:Value):Prop:=∃ oe vs oT ts,h.get? e=some oe∧(oe.cls=.ref C∧oe.dict=none)∧oe.data=.fields vs∧vs[1]?=some (.ref T)∧h.get? T=some oT∧oT.data=.fields ts∧ts[3]?=some fl∧T ≠ e
theorem IsExc.at {h h':Heap} {e C T:Addr} {fl:Value} (x:IsExc h e C T fl) (k1:∀ o,h.get? e=some o→h'.get? e=some o) (k2:∀ o,h.get? T=some o→h'.get? T=some o):IsExc h' e C T fl:=by
  obtain ⟨oe,vs,oT,ts,a,b,c,d,f,g,i,j⟩:=x
  exact ⟨oe,vs,oT,ts,k1 _ a,b,c,d,k2 _ f,g,i,j⟩
theorem flight_ok {e C T:Addr} {fl:Value} {fr:Option Addr} {Q:Unit→Shared→Prop} (x:IsExc s.heap e C T fl) (h:∀ h',Heap.SameBut T s.heap h'→IsExc h' e C T (fr.elim .none fun f=>rawInt f)→Q () { s with heap:=h' }):wpAny M A (setFlight (.ref e) fr) Q E s:=by
  obtain ⟨oe,vs,oT,ts,he,hc,hd,h1,hT,hdT,h3,ne⟩:=x
  unfold setFlight
  refine wpAny_bind (wpAny_field he hd h1 ?_)
  rw [if_pos (show (Value.ref T != Value.none)=true from by simp)]
  have d3:=Obj.data_mapFields hdT (·.setIfInBounds 3 (fr.elim Value.none fun f=>rawInt f))
  have l3:3 < ts.size:=(Array.getElem?_eq_some_iff.mp h3).1
  refine wpAny_setField hT hdT l3 (h _ (Heap.SameBut.update ..) ⟨oe,vs,_,_,?_,hc,hd,h1,Heap.get?_update_self _ hT (Obj.isFreed_of_fields d3),d3,by simp [l3],ne⟩)
  rw [Heap.get?_update_other _ _ ne]; exact he
theorem note_new {base:Heap} {env:Env} {outer:List Env} {L e C:Addr} {oe:Obj} {vs:Array Value} {Q:Unit→Shared→Prop} (hfr:A.frames=some (env :: outer)) (hl:s.heap.FunFrames base (env :: outer)) (hf:env.frame=some L)
    (he:s.heap.get? e=some oe) (hc:oe.cls=.ref C∧oe.dict=none) (hd:oe.data=.fields vs) (h1:vs[1]?=some .none)
    (h:∀ h' T,s.heap.objs.size ≤ T→(∀ b o,b ∉ frs (env :: outer)→b ≠ e→s.heap.get? b=some o→h'.get? b=some o)→(∀ b o,b ≠ e→s.heap.get? b=some o→∃ sl,h'.get? b=some { o with slots:=sl })→IsExc h' e C T (rawInt L)→Q () { s with heap:=h' }) :
    wpAny M A (noteFrame (.ref e) env) Q E s:=by
  unfold noteFrame; simp only [hf]
  refine wpAny_bind (wpAny_field he hd h1 ?_)
  rw [if_neg (by decide)]
  have l1:1 < vs.size:=(Array.getElem?_eq_some_iff.mp h1).1
  refine entry_ok (had:=(Value.none != Value.none)) hfr hl hf he hd l1 fun h' T oT ts a1 a2 a3 a4 a5 a6 a7=>h h' T a1 a2 a3 ?_
  have ne:T ≠ e:=fun z=>absurd (Nat.lt_of_lt_of_le (Heap.lt_size he) (z ▸ a1)) (Nat.lt_irrefl _)
  exact ⟨_,_,oT,ts,a4,by rw [Obj.cls_mapFields,dict_map]; exact hc,Obj.data_mapFields hd _,by simp [l1],a5,a6,a7,ne⟩
theorem note_next {base:Heap} {env:Env} {outer:List Env} {L e C T0:Addr} {Q:Unit→Shared→Prop} (hfr:A.frames=some (env :: outer)) (hl:s.heap.FunFrames base (env :: outer)) (hf:env.frame=some L) (x:IsExc s.heap e C T0 .none)
    (h:∀ h' T,s.heap.objs.size ≤ T→(∀ b o,b ∉ frs (env :: outer)→b ≠ e→b ≠ T0→s.heap.get? b=some o→h'.get? b=some o)→(∀ b o,b ≠ e→b ≠ T0→s.heap.get? b=some o→∃ sl,h'.get? b=some { o with slots:=sl })→IsExc h' e C T (rawInt L)→Q () { s with heap:=h' }) :
    wpAny M A (noteFrame (.ref e) env) Q E s:=by
  obtain ⟨oe,vs,oT,ts,he,hc,hd,h1,hT,hdT,h3,ne⟩:=x
  unfold noteFrame; simp only [hf]
  refine wpAny_bind (wpAny_field he hd h1 ?_)
  rw [if_pos (show (Value.ref T0 != Value.none)=true from by simp)]
  refine wpAny_bind (wpAny_field hT hdT h3 ?_)
  rw [if_neg (show ¬ ((Value.none == rawInt L)=true) from by simp [rawInt])]
  have l3:3 < ts.size:=(Array.getElem?_eq_some_iff.mp h3).1
  refine wpAny_bind (wpAny_setField hT hdT l3 ?_)
  have l1:1 < vs.size:=(Array.getElem?_eq_some_iff.mp h1).1
  have d3:=Obj.data_mapFields hdT (·.setIfInBounds 3 Value.none)
  have other:∀ b o,b ≠ T0→s.heap.get? b=some o→(s.heap.update T0 (Obj.mapFields (·.setIfInBounds 3 Value.none))).get? b=some o:=fun b o nb q=>by rw [Heap.get?_update_other _ _ (Ne.symm nb)]; exact q
  have sz:(s.heap.update T0 (Obj.mapFields (·.setIfInBounds 3 Value.none))).objs.size=s.heap.objs.size:=Heap.size_after_update ..
  refine entry_ok (base:=base) (had:=(Value.ref T0 != Value.none)) hfr (hl.of_keeps fun b o hb hnf=>⟨o,other b o (fun z=>by rw [z,hT] at hb; cases hb; exact hnf ts hdT) hb,rfl⟩) hf (other e oe (Ne.symm ne) he) hd l1 fun h' T oT' ts' a1 a2 a3 a4 a5 a6 a7=>?_
  have a1':s.heap.objs.size ≤ T:=by rw [← sz]; exact a1
  have ne':T ≠ e:=fun z=>absurd (Nat.lt_of_lt_of_le (Heap.lt_size he) (z ▸ a1')) (Nat.lt_irrefl _)
  exact h h' T a1' (fun b o n1 n2 n3 q=>a2 b o n1 n2 (other b o n3 q)) (fun b o n2 n3 q=>a3 b o n2 (other b o n3 q)) ⟨_,_,oT',ts',a4,by rw [Obj.cls_mapFields,dict_map]; exact hc,Obj.data_mapFields hd _,by simp [l1],a5,a6,a7,ne'⟩
end
end PF
set_option Elab.async false
set_option linter.all false
set_option maxRecDepth 100000
set_option maxHeartbeats 4000000
namespace PF
open PySem PySem.Spec L2
open PyProof.Rows hiding St
section
variable {P:Program} {w:World} {H H':Hp} {h h1 h2 h':Heap} {a e T:Addr} {fs:List Addr}
theorem obj_at {o:HO} (x:ObjOk P w H h a o):∃ ob,h.get? a=some ob:=by
  cases o with
  | lst xs=>obtain ⟨_,_,_,_,q⟩:=x; exact ⟨_,q⟩
  | tup xs=>obtain ⟨_,_,_,o,q,_⟩:=x; exact ⟨o,q⟩
  | dK kvs=>obtain ⟨_,_,_,_,o,_,_,q,_⟩:=x; exact ⟨_,q⟩
  | dT kvs=>obtain ⟨_,_,_,_,o,_,_,q,_⟩:=x; exact ⟨_,q⟩
  | set S n=>obtain ⟨o,_,_,_,q,_⟩:=x; exact ⟨_,q⟩
  | ins C dx fs=>obtain ⟨_,_,_,q,_⟩:=x; exact ⟨_,q⟩
  | own y=>obtain ⟨o,q⟩:=x; exact ⟨o,q⟩
  | xd fs=>obtain ⟨_,⟨_,_,_,q,_⟩,_⟩:=x; exact ⟨_,q⟩
  | rng lo hi=>obtain ⟨_,_,_,q⟩:=x; exact ⟨_,q⟩
  | frz ob u=>obtain ⟨q,_⟩:=x; exact ⟨_,q⟩
  | tbl ps=>exact ⟨_,x⟩
  | met f y=>exact ⟨_,x⟩
  | ext φ=>obtain ⟨_,⟨o,q⟩,_⟩:=x; exact ⟨o,q⟩
theorem un_noted (u:Un fs [] H H' h h1) (he:h.get? e=none) (hT:h.get? T=none) (k1:∀ b o,b ∉ fs→b ≠ e→b ≠ T→h1.get? b=some o→h2.get? b=some o)
    (k2:∀ b o,b ≠ e→b ≠ T→h1.get? b=some o→∃ sl,h2.get? b=some { o with slots:=sl }):Un fs [] H H' h h2:=by
  have ne:∀ b o,h.get? b=some o→b ≠ e∧b ≠ T:=fun b o q=>⟨(fun z=>by rw [z,he] at q; cases q),(fun z=>by rw [z,hT] at q; cases q)⟩
  refine ⟨fun b o q n hb hx=>k1 b o hb (ne b o q).1 (ne b o q).2 (u.keep b o q n hb hx),fun b o q n hb hx=>?_,u.free,fun b o q hx=>?_,u.tups,u.frzs,u.tbls⟩
  · obtain ⟨sl,e1⟩:=u.slot b o q n hb hx
    obtain ⟨sl',e2⟩:=k2 b _ (ne b o q).1 (ne b o q).2 e1
    exact ⟨sl',e2⟩
  · obtain ⟨o',e1⟩:=u.there b o q hx
    obtain ⟨sl',e2⟩:=k2 b _ (ne b o q).1 (ne b o q).2 e1
    exact ⟨_,e2⟩
theorem hok_noted (x:HOk P w H h1) (ne:H e=none) (nT:H T=none) (nf:∀ b ∈ fs,H b=none) (k1:∀ b o,b ∉ fs→b ≠ e→b ≠ T→h1.get? b=some o→h2.get? b=some o):HOk P w H h2:=fun a o q=>
  (x a o q).stay (fun b u hb z=>by
    have nb:H b ≠ none:=by
      rcases hb with rfl | hb
      · rw [q]; exact fun z=>nomatch z
      · rw [hb]; exact fun z=>nomatch z
    exact k1 b u (fun z=>nb (nf b z)) (fun z=>nb (z ▸ ne)) (fun z=>nb (z ▸ nT)) z) (fun _ q=>q) fun _ _ q=>q
theorem hok_none (x:HOk P w H h) (n:h.get? a=none):H a=none:=by
  cases q:H a with
  | none=>rfl
  | some u=>
    obtain ⟨o,z⟩:=obj_at (x a u q)
    rw [n] at z; cases z
end
noncomputable def exN:Nat→Str
  | 0 => "FoldError"
  | 1 => "NoSum"
  | 2 => "NoText"
  | _ => "NoPart"
noncomputable def CXE (K:PySem.W.Frag) (P:Program) (w:World):CXT:=fun outer H s E e s'=>∃ (a:Addr) (k:Nat) (C T:Addr) (H':Hp),e=.ref a∧s'.os=s.os∧AllBare s'.gens∧Un (frs outer) [] H H' s.heap s'.heap∧HOk P w H' s'.heap∧
  PySem.W.nsIn K mainGlobals (exN k)=some (some (.ref C))∧IsExc s'.heap a C T .none∧s.heap.get? a=none∧s.heap.get? T=none∧H' a=none∧H' T=none∧E (.ref k) none H'
abbrev vb:List Value:=[.type "ValueError",.type "Exception",.type "BaseException",.type "object"]
theorem exc_obj {K:PySem.W.Frag} {h:Heap} {C:Addr} {bmB:List Value} {nid:String} (X:K.In h) (q:PySem.W.excIn K C bmB nid=true) :
    ∃ bm N nm qn bs hd sn sub ab col dd k0 k1 k2 k3 k5 mN,h.get? C=some (excClassObj nm qn C N bs bm hd sn sub ab col dd k0 k1 k2 k3 k5 nid)∧h.Ns N mN∧mN "__init__" = none∧OwnTail h bmB bm:=by
  unfold PySem.W.excIn at q
  split at q
  · next dd cd sl ho=>
    split at q
    · next C' bm k0 k1 k2 k3 n k5 hm hs=>
      rw [Bool.and_eq_true,Bool.and_eq_true,Bool.and_eq_true,Bool.and_eq_true,Bool.and_eq_true] at q
      obtain ⟨⟨⟨⟨⟨q1,q2⟩,q3⟩,q4⟩,q5⟩,q6⟩:=q
      have e1:C'=C:=beq_iff_eq.mp q1
      have e2:n=nid:=beq_iff_eq.mp q2
      have e3:cd.hasDel=false:=by simpa using q3
      subst e1; subst e2
      cases cd with
      | mk nm bs mro ns qn hd sn sub ab col del=>
        have hm':mro=Value.ref C' :: bm:=hm
        have e3':del=false:=e3
        subst hm'; subst e3'
        cases sl with
        | mk l=>
          have hs':l=[k0,k1,k2,k3,some (Value.builtin n),k5]:=hs
          subst hs'
          refine ⟨bm,ns,nm,qn,bs,hd,sn,sub,ab,col,dd,k0,k1,k2,k3,k5,h.nsMap ns,X C' _ ho,Heap.Ns.of_isNs (PySem.W.isNs_of_in X q5),?_,PySem.W.tail_of_in X q4⟩
          exact PySem.W.nsMap_none_of_in X q5 (beq_iff_eq.mp q6)
    · cases q
  · cases q
noncomputable def tRaise (te:TE) (R:Hp→Prop):TS:=fun _ σ H=>te σ H fun _ H1=>R H1
theorem ps_raise {X:Cx} {C:Addr} {x:Str} {np cpos pos:Pos} {e:Expr} {te:TE} {R:Hp→Prop} (hh:X.A.handled=none) (hg:Gl X x) (hm:X.mg x=some (.ref C)) (hexc:PySem.W.excIn X.K C vb "ValueError.__new__" = true) (he:PE X e te)
    (hx:∀ (pins:List (Addr × Obj)) (σ:St) (H:Hp) (s:Shared) (us:List Value) (h':Heap) (a:Addr),Inv X pins σ H s→R H→Heap.MadeExcOf s.heap h' a (.ref C) us→X.xe (.ref a) { s with heap:=h' })
    (hd:(x == ("__debug__" : Str))=false:=by decide) (hs:starEach [e] X.env=(false,eval e X.env) :: starEach [] X.env:=by rfl):PS X (.Raise (some (.Call (.Name x np) [e] [] cpos)) none pos) (tRaise te R):=by
  intro pins s σ H D I h
  obtain ⟨tl,N,nm,q,bs,hdct,sn,sub,ab,col,dd,k0,k1,k2,k3,k5,mN,hC,hN,hni,T⟩:=exc_obj I.ok.mod.kin hexc
  refine wpAny_Raise_call_subU (C:=C) (nm:=nm) (q:=q) (N:=N) (bs:=bs) (bm:=tl) (hdct:=hdct) (sn:=sn) (sub:=sub) (ab:=ab) (col:=col) (dd:=dd) (k0:=k0) (k1:=k1) (k2:=k2) (k3:=k3) (k5:=k5)
    PySem.F.excBase_ValueError (by decide +kernel) PySem.F.excBase_ValueError (mN:=mN) (T.hasType PySem.F.excBase_ValueError.hasBase) hh (by rw [hs]; rfl) hni (ld_glob I hg hm ⟨rfl,?_⟩ hd)
  have hp:=pa_cons he pa_nil hs cpos pins s σ H (fun vs H1=>vs.length=1∧R H1) I (by
    show te σ H fun x H1=>tNil σ H1 fun xs H2=>(x :: xs).length=1∧R H2
    have e:(fun (x:V) (H1:Hp)=>tNil σ H1 fun xs H2=>(x :: xs).length=1∧R H2)=fun _ H1=>R H1:=by
      funext x H1
      simp [tNil]
    rw [e]; exact h)
  rw [hs] at hp ⊢
  refine Calls.evalArgs_plain (wpAny_mono hp (fun us s2 ⟨vs,H2,I2,r,l,q2⟩=>⟨rfl,?_,I2.bk _ _ hC,hN.keeps I2.bk,T.keeps I2.bk,fun h' a hm=>hx pins σ H2 s2 us h' a I2 q2 hm⟩) fun _ _ y=>y)
  show us.length ≤ sizeLine
  rw [← r.length,l]; decide
section
variable {P:Program} {w:World} {K:PySem.W.Frag} {mg:Str→Option Value} {base:Heap} {N:List Str} {qual:Str} {scope:Scope} {f:Addr} {cdv:Value} {A:Around} {outer:List Env} {s:Shared} {H:Hp} {E:XK}
theorem leave_made {pins:List (Addr × Obj)} {σ:St} {H1:Hp} {s1:Shared} {us:List Value} {h':Heap} {a C:Addr} (k:Nat) (hns:PySem.W.nsIn K mainGlobals (exN k)=some (some (.ref C)))
    (I:Inv (cxOf (CXE K P w) P w K mg base N qual scope f cdv A outer s H E) pins σ H1 s1) (q:E (.ref k) none H1) (hm:Heap.MadeExcOf s1.heap h' a (.ref C) us) :
    (cxOf (CXE K P w) P w K mg base N qual scope f cdv A outer s H E).xe (.ref a) { s1 with heap:=h' }:=by
  obtain ⟨t,he,_,_⟩:=hm.there
  have fr:(A.deeper (envOfC qual scope s.heap.objs.size f cdv)).frames=some (envOfC qual scope s.heap.objs.size f cdv :: outer):=I.ok.frames
  have st:s1.heap.FunFrames base (envOfC qual scope s.heap.objs.size f cdv :: outer):=I.stack
  show wpAny _ _ (leaving _ _) _ _ _
  unfold leaving
  refine wpAny_bind (note_new (s:={ s1 with heap:=h' }) (C:=C) fr (st.of_keeps fun b o hb _=>⟨o,hm.keeps b o hb,rfl⟩) rfl he ⟨rfl,rfl⟩ rfl (by rfl) fun h2 T a1 a2 a3 ix=>?_)
  refine flight_ok (s:={ s1 with heap:=h2 }) (fr:=none) ix fun h3 sb ix3=>?_
  have nT:s1.heap.get? T=none:=by
    cases z:s1.heap.get? T with
    | none=>rfl
    | some o=>
      have z2:=hm.keeps _ _ z
      exact absurd (Nat.lt_of_lt_of_le (Heap.lt_size z2) a1) (Nat.lt_irrefl _)
  have k1:∀ b o,b ∉ frs (envOfC qual scope s.heap.objs.size f cdv :: outer)→b ≠ a→b ≠ T→s1.heap.get? b=some o→h3.get? b=some o:=fun b o n1 n2 n3 z=>by
    rw [sb.2 b n3]; exact a2 b o n1 n2 (hm.keeps b o z)
  have k2:∀ b o,b ≠ a→b ≠ T→s1.heap.get? b=some o→∃ sl,h3.get? b=some { o with slots:=sl }:=fun b o n2 n3 z=>by
    obtain ⟨sl,y⟩:=a3 b o n2 (hm.keeps b o z)
    exact ⟨sl,by rw [sb.2 b n3]; exact y⟩
  have fa:=hok_none I.hok hm.new
  have fT:=hok_none I.hok nT
  have I3:=I.call' (s':={ s1 with heap:=h3 }) (ch:=[]) rfl (un_noted Un.refl hm.new nT k1 k2) (hok_noted I.hok fa fT I.stkFree k1) I.bare (fun b z=>absurd z (by simp))
  have new:∀ b,s1.heap.get? b=none→s.heap.get? b=none:=fun b z=>by
    cases y:s.heap.get? b with
    | none=>rfl
    | some o=>
      obtain ⟨o',e'⟩:=I.base.there b o y (by intro q; exact nomatch q)
      rw [z] at e'; cases e'
  exact ⟨a,k,C,T,H1,rfl,I3.os,I3.bare,I3.base,I3.hok,hns,ix3,new a hm.new,new T nT,fa,fT,q⟩
theorem ds_raise (k:Nat) {C:Addr} {x:Str} {np cpos pos:Pos} {e:Expr} {fe:DS→M VR} {F0 H0:Hp} (hh:A.handled=none) (hns:PySem.W.nsIn K mainGlobals (exN k)=some (some (.ref C))) (hexc:PySem.W.excIn K C vb "ValueError.__new__" = true) (hm:mg x=some (.ref C))
    (hg:Gl (cxOf (CXE K P w) P w K mg base N qual scope f cdv A outer s H E) x) (he:DE (cxOf (CXE K P w) P w K mg base N qual scope f cdv A outer s H E) F0 H0 (fun c H'=>E (.ref c) none H') e fe) {d:VR} (hd:∀ S,fe S=some (.ok d))
    (hdb:(x == ("__debug__" : Str))=false:=by decide)
    (hs:starEach [e] (cxOf (CXE K P w) P w K mg base N qual scope f cdv A outer s H E).env=(false,eval e (cxOf (CXE K P w) P w K mg base N qual scope f cdv A outer s H E).env) :: starEach [] (cxOf (CXE K P w) P w K mg base N qual scope f cdv A outer s H E).env:=by rfl) :
    DS1 (cxOf (CXE K P w) P w K mg base N qual scope f cdv A outer s H E) F0 H0 (fun c H'=>E (.ref c) none H') (.Raise (some (.Call (.Name x np) [e] [] cpos)) none pos) (fun _=>some (.ex k)):=.mk fun pins s1 σ H1 Dn I q=>by
  obtain ⟨F,S,sk,o⟩:=q
  refine ps_raise (R:=fun H'=>E (.ref k) none H') hh hg hm hexc he.h (fun pins' σ' H' s' us h' a I' r hm'=>leave_made k hns I' r hm') hdb hs pins s1 σ H1 Dn I ?_
  refine ⟨F,S,sk,?_⟩
  rw [hd S]
  exact fun v F' H' ex _=>o H' (sk.ext.hh.trans ex.hh)
end
theorem Fun.dx {P:Program} {w:World} {K:PySem.W.Frag} {mg:Str→Option Value} {base:Heap} {x qual:Str} {st:Stmt} {f:Addr} {fd:FuncData} {N ps:List Str} {k:Nat} {m:List D→M D} {g:DS→Option Fl} (F:Fun K x qual st f fd) (Sc:FnScope N ps (defScope st))
    (hb:∀ (cdv:Value) (A:Around) (outer:List Env) (s:Shared) (H:Hp) (E:XK),Room k (A.deeper (envOfC qual (defScope st) s.heap.objs.size f cdv))→∀ F0 H0:Hp,DSs (cxOf (CXE K P w) P w K mg base N qual (defScope st) f cdv A outer s H E) F0 H0 (fun c H'=>E (.ref c) none H') (defBody st) g)
    (hg:∀ ds r,ds.length=ps.length→m ds=some r→fin (g (startD N ds))=some r):FnOk P w K mg base (CXE K P w) (k + 1) f fd ps (spM K ps.length m):=by
  obtain ⟨oc,od,kV,doc,pm,an,cdv,ct,osl,rfl,lk,hcd⟩:=F.ex
  refine fn_of lk hcd Sc (fun vs H Q E h=>spM_len h) fun A outer s H vs Q E hr h=>?_
  obtain ⟨F1,ds,fh,r,l,o⟩:=h
  refine ⟨_,(hb cdv A outer s H E hr F1 H).h,F1,startD N ds,start_ok fh r,?_⟩
  cases z:m ds with
  | none=>rw [z] at o; exact False.elim o
  | some y=>
    rw [z] at o
    have e:=hg ds y l z
    cases q:g (startD N ds) with
    | none=>rw [q] at e; cases e
    | some fl=>
      rw [q] at e
      cases fl with
      | next S=>
        have ed:Except.ok D.non=y:=by injection e
        subst ed
        exact fun σ' F' H' sk=>o .non F' H' sk.ext rfl
      | ret d'=>
        have ed:Except.ok d'=y:=by injection e
        subst ed
        exact fun v F' H' ex rp=>o v F' H' ex rp
      | brk S=>cases e
      | cont S=>cases e
      | ex c=>
        have ed:Except.error c=y:=by injection e
        subst ed
        exact fun H' h'=>o H' h'
end PF
set_option Elab.async false
set_option linter.all false
set_option maxRecDepth 100000
set_option maxHeartbeats 4000000
namespace PF
open PySem PySem.Spec PySem.W L2
open PyProof.Rows hiding St InstAt
section
variable {prog:Program} {w:World} {A:Around} {E:Value→Shared→Prop} {s:Shared} {K:PySem.W.Frag} {a C:Addr} {ox:Obj}
structure ExK (K:PySem.W.Frag) (C:Addr):Prop where
  exc:excIn K C vb "ValueError.__new__" = true
  ga:findIn K (.ref C) "__getattribute__" = some (some (.builtin "BaseException.__getattribute__"))
  gt:findIn K (.ref C) "__getattr__" = some none
  cl:findIn K (.ref C) "__class__" = some (some (.builtin "object.__class__"))
  gs:specialIn K (.builtin "object.__class__") "__get__" = some (some (.builtin "getset_descriptor.__get__"))
  tk:takesIn K (.builtin "object.__class__")=some true
  ob:mroIn K C (.type "object")=some true
  be:mroIn K C (.type "BaseException")=some true
  ty:typeIn K (.ref C)=some (.type "type")
  ic:isClsIn K C=true
theorem exc_entry (k:ExK K C) {tk:Tok} {Q:Fin→Shared→Prop} (X:K.In s.heap) (I:PySem.W.InstAt s.heap a ox C none) (h:Q (.done (.ret (.ref C))) s) :
    wpAny (model prog w) A (Builtin.«object.__getattribute__» ⟨[.ref a,.str "__class__" tk],[]⟩) Q E s:=by
  have hf:findObj K C none "__class__" = some (.bind (.builtin "getset_descriptor.__get__") (.builtin "object.__class__")):=by
    have z:=k.ic
    unfold isClsIn at z
    obtain ⟨cd,hc⟩:=Option.isSome_iff_exists.mp z
    unfold findObj
    rw [hc,k.cl]
    simp only [Option.bind_some,k.gs,k.tk]
  obtain ⟨hh,gg,d,t,os⟩:=s
  have L0:=I.type (M:=model prog w)
  have L1:=looks_find (M:=model prog w) X I hf
  refine wpAny_bind (wpAny_pure (wpAny_bind (wpAny_pure (wpAny_bind (L0.at (wpAny_bind (L1.at ?_)))))))
  show wpAny _ _ (holding [_] (call _ _) >>= ret) _ _ _
  refine wpAny_bind (wpAny_holding (wpAny_call (class_get (ox:=ox) (od:=none) X I k.ob ?_)))
  exact wpAny_pure h
theorem exc_check (k:ExK K C) {nv:Value} {Q:Unit→Shared→Prop} (X:K.In s.heap) (I:PySem.W.InstAt s.heap a ox C none) (h:Q () s):wpAny (model prog w) A (checkBuiltinCall "BaseException.__getattribute__" ⟨[.ref a,nv],[]⟩) Q E s:=by
  have hk:builtinKind "BaseException.__getattribute__" = some .slot:=by decide +kernel
  have hsp:splitId "BaseException.__getattribute__" = some ("BaseException", "__getattribute__"):=by decide +kernel
  have ha:=F.args_bexc_ga (.ref a) nv
  obtain ⟨hh,gg,d,t,os⟩:=s
  have L0:=I.type (M:=model prog w)
  have L1:=looks_mroIn (M:=model prog w) X k.be
  simp only [checkBuiltinCall,hk,hsp]
  refine wpAny_bind (wpAny_bind (L0.at (L1.at ?_)))
  repeat (first | assumption | wp_step)
theorem exc_class (k:ExK K C) {Q:Option Value→Shared→Prop} (X:K.In s.heap) (I:PySem.W.InstAt s.heap a ox C none) (h:Q (some (.ref C)) { s with toks:=s.toks + 1 }):wpAny (model prog w) A (getAttr? (.ref a) "__class__") Q E s:=by
  obtain ⟨hh,gg,d,t,os⟩:=s
  have L0:=I.type (M:=model prog w)
  have L1:=looks_findIn (M:=model prog w) X k.ga
  have L2:=looks_findIn (M:=model prog w) X k.gt
  unfold getAttr? getAttrBy? getAttrBy
  refine wpAny_bind (wpAny_mkText (wpAny_bind (wpAny_attempt (wpAny_holding (wpAny_bind (L0.at (wpAny_bind (L1.at ?_))))))))
  have hne:(onTheHeap (Value.ref C) && Value.builtin "BaseException.__getattribute__" == Value.builtin "object.__getattribute__")=false:=by
    rw [show (Value.builtin "BaseException.__getattribute__" == Value.builtin "object.__getattribute__")=false from by decide +kernel]; rfl
  dsimp only
  rw [hne,if_neg Bool.false_ne_true]
  unfold getAttrByItsOwn
  refine wpAny_bind (L2.at (wpAny_bind (wpAny_attempt ?_)))
  refine wpAny_holding ?_
  show wpAny _ _ (boundAndCalled _ _ _) _ _ _
  unfold boundAndCalled
  rw [F.attr_ValueError.ga.bind]
  refine wpAny_bind (wpAny_pure ?_)
  refine wpAny_call (codeAny_call_builtin F.attr_ValueError.ga.plain F.entry_bexc_ga (exc_check k (s:=⟨hh,gg,d,t + 1,os⟩) X I (exc_entry k (s:=⟨hh,gg,d,t + 1,os⟩) X I ?_)))
  exact wpAny_pure (wpAny_pure h)
theorem kitx_exc (k:ExK K C):KitX K (.ref a) (.ref C) (fun h=>PySem.W.InstAt h a ox C none) where
  ty:=fun _ _ _ I=>I.type
  it:=fun _ _ X _=>by
    have z:=k.ic
    unfold isClsIn clsIn at z
    split at z
    · next ho=>
      intro A' Q' E' s' kp q
      unfold isType loadHead
      exact wpAny_bind (wpAny_loadPart (kp _ _ (X _ _ ho)) (wpAny_pure q))
    · cases z
  ne:=fun h tp dd its n sl X htp=>by
    refine Bool.eq_false_iff.mpr fun q=>?_
    have e:C=tp:=Value.ref.inj (beq_iff_eq.mp q)
    subst e
    have z:=k.ic
    unfold isClsIn clsIn at z
    split at z
    · next ho=>cases (X _ _ ho).symm.trans htp
    · cases z
  ca:=fun X I q=>exc_class k X I q
end
end PF
set_option Elab.async false
set_option linter.all false
set_option maxRecDepth 100000
set_option maxHeartbeats 4000000
namespace PF
open PySem PySem.Spec PySem.W L2
open PyProof.Rows hiding St InstAt
section
variable {X:Cx}
noncomputable def tIsx (j:Nat) (a:Addr) (b:Bool):TE:=fun σ H Q=>σ[j]?=some (some (V.ref a))∧Q (.bl b) H
theorem call_isx {a C:Addr} {oe:Obj} {vs:Array Value} {b:Bool} {cv:V} (hp:(a,oe) ∈ X.pn) (hc:oe.cls=.ref C) (hd:oe.dict=none) (hf:oe.data=.fields vs) (k:ExK X.K C) (hk:∀ u,RelV cv u→kitOne X.K (.ref C) u=some b) :
    CallR X (.builtin "isinstance") (fun xs H Q=>xs=[.ref a,cv]∧Q (.bl b) H):=by
  intro pins s σ H xs us Q I r q
  obtain ⟨rfl,q⟩:=q
  obtain ⟨u,w',rfl,rx,rt⟩:=vals2 r
  cases rx
  obtain ⟨e,_⟩:=I.pin (a,oe) (List.mem_append_left _ hp)
  refine kia_one (kitx_exc (ox:=oe) k) I.kIn ⟨e,hc,by unfold notCls; rw [hf],by rw [hd]; trivial⟩ (hk _ rt) (fun z=>nomatch z) fun tk=>⟨.bl b,H,I.tok tk,rfl,q⟩
theorem pe_isx (j:Nat) {a C:Addr} {oe:Obj} {vs:Array Value} {b:Bool} {cv:V} {n y:Str} {p p1 p2 pos:Pos} (hp:(a,oe) ∈ X.pn) (hc:oe.cls=.ref C) (hd:oe.dict=none) (hf:oe.data=.fields vs) (k:ExK X.K C) (hk:∀ u,RelV cv u→kitOne X.K (.ref C) u=some b)
    (hgl:Gl X "isinstance") (hm:X.mg "isinstance" = none) (hcls:PE X (.Name y p2) (tC cv)) (hN:X.N[j]?=some n:=by rfl) (hv:Vis X.env.scope n:=by first | exact Or.inl rfl | exact Or.inr (Or.inl rfl) | exact Or.inr (Or.inr rfl)) (hdb:(n == ("__debug__" : Str))=false:=by decide) (hcd:(n == ("__classdict__" : Str))=false:=by decide) :
    PE X (.Call (.Name "isinstance" p) [.Name n p1,.Name y p2] [] pos) (tIsx j a b):=fun pins s σ H Q I h=>
  pe_callB (call_isx hp hc hd hf k hk) hgl hm (by decide +kernel) (pa_cons (pe_var hN hv hdb hcd) (pa_cons hcls pa_nil rfl) rfl) (by decide) (by decide) rfl rfl pins s σ H Q I ⟨_,h.1,rfl,h.2⟩
theorem matches_ok {M:Model} {A:Around} {E:Value→Shared→Prop} {s:Shared} {K:PySem.W.Frag} {a C D:Addr} {oe:Obj} {Q:Bool→Shared→Prop} (kD:ExK K D) (hs:mroIn K C (.ref D)=some true) (X:K.In s.heap) (he:s.heap.get? a=some oe) (hc:oe.cls=.ref C) (h:Q true s) :
    wpAny M A (excMatches (.ref a) (.ref D)) Q E s:=by
  obtain ⟨hh,gg,d,t,os⟩:=s
  have L0:Looks M hh (typeOf (.ref a)) (.ref C):=hc ▸ (Looks.ld he).andThen .now
  have L1:=looks_typeIn (M:=M) X kD.ty
  have L2:Looks M hh (isSubtype (.type "type") (.type "tuple")) false:=Looks.of_pure tc_notTuple
  have L3:=looks_mroIn (M:=M) X kD.be
  have L4:=looks_mroIn (M:=M) X hs
  have L5:Looks M hh (isType (.ref D)) true:=by
    have z:=kD.ic
    unfold isClsIn clsIn at z
    split at z
    · next ho=>
      intro A' Q' E' s' kp q
      unfold isType loadHead
      exact wpAny_bind (wpAny_loadPart (kp _ _ (X _ _ ho)) (wpAny_pure q))
    · cases z
  unfold excMatches isInstance isExcClass
  repeat lk
  exact h
theorem inv_lost {pins:List (Addr × Obj)} {σ:St} {H:Hp} {s:Shared} {h':Heap} {m':Str→Option Value} {t':Nat} (I:Inv X pins σ H s) (hn:h'.Ns X.env.locals m') (hs:Heap.SameBut X.env.locals s.heap h') :
    Inv X pins (List.replicate X.N.length none) H { s with heap:=h',toks:=t' }:=by
  obtain ⟨m,⟨oL,_,_,hoL,_⟩,_⟩:=id I.loc
  have neL:∀ b o,X.s₀.heap.get? b=some o→b ≠ X.env.locals:=fun b o e=>Nat.ne_of_lt (Nat.lt_of_lt_of_le (Heap.lt_size e) I.ok.above)
  refine ⟨I.ok,I.os,I.bare,⟨fun b o e n hb hx=>(hs.2 b (neL b o e)).trans (I.base.keep b o e n hb hx),fun b o e n hb hx=>?_,I.base.free,fun b o e hx=>?_,I.base.tups,I.base.frzs,I.base.tbls⟩,⟨m',hn,fun j y v e1 e2 e3=>?_⟩,fun y c e=>?_,I.free,I.freeC,fun p hp=>?_,fun b ob e=>?_,by simp⟩
  · obtain ⟨sl,e1⟩:=I.base.slot b o e n hb hx
    exact ⟨sl,(hs.2 b (neL b o e)).trans e1⟩
  · obtain ⟨o',e1⟩:=I.base.there b o e hx
    exact ⟨o',(hs.2 b (neL b o e)).trans e1⟩
  · rw [List.getElem?_replicate] at e2
    split at e2 <;> cases e2
  · obtain ⟨w',z⟩:=I.cell y c e
    exact ⟨w',z.sameBut hs (I.cne y c e)⟩
  · obtain ⟨e,n,ne,nf,d⟩:=I.pin p hp
    exact ⟨(hs.2 p.1 ne).trans e,n,ne,nf,d⟩
  · refine (I.hok b ob e).stay (fun c u hc q=>(hs.2 c ?_).trans q) (fun _ q=>q) fun _ _ q=>q
    rintro rfl
    rcases hc with rfl | hc
    · rw [I.free] at e; cases e
    · rw [I.free] at hc; cases hc
noncomputable def dTry (h:DS→Option Fl) (g:Nat→Option D):DS→Option Fl:=fun S=>match h S with
  | some (.ex k)=>(match g k with
    | some d=>some (.ret d)
    | none=>none)
  | x=>x
noncomputable abbrev xcx (X:Cx) (a:Addr) (pn:List (Addr × Obj)):Cx:={ X with A:=X.A.mark (some (.ref a)),calm:=false,xe:=fun _ _=>False,pn:=pn }
noncomputable abbrev ycx (X:Cx) (pn:List (Addr × Obj)) (E1:Value→Shared→Prop):Cx:={ X with xe:=E1,pn:=pn }
theorem inv_to {X Y:Cx} {pins pins':List (Addr × Obj)} {σ:St} {H:Hp} {s:Shared} (I:Inv X pins σ H s) (ok:Y.Ok) (h1:Y.s₀=X.s₀) (h2:Y.H₀=X.H₀) (h3:Y.outer=X.outer) (h4:Y.ex=X.ex) (h5:Y.env=X.env) (h6:Y.N=X.N) (h7:Y.prog=X.prog) (h8:Y.w=X.w)
    (hp:∀ p ∈ Y.pn ++ pins',s.heap.get? p.1=some p.2∧H p.1=none∧p.1 ≠ X.env.locals∧p.1 ∉ X.fs∧∀ v,p.2.data ≠ .cell v):Inv Y pins' σ H s:=by
  refine ⟨ok,by rw [h1]; exact I.os,I.bare,?_,?_,by rw [h5]; exact I.cell,by rw [h5]; exact I.free,by rw [h5]; exact I.freeC,?_,by rw [h7,h8]; exact I.hok,by rw [h6]; exact I.len⟩
  · show Un (frs Y.outer) Y.ex Y.H₀ H Y.s₀.heap s.heap
    rw [h1,h2,h3,h4]; exact I.base
  · rw [h5,h6]; exact I.loc
  · show ∀ p ∈ Y.pn ++ pins',s.heap.get? p.1=some p.2∧H p.1=none∧p.1 ≠ Y.env.locals∧p.1 ∉ frs Y.outer∧∀ v,p.2.data ≠ .cell v
    rw [h5,h3]; exact hp
theorem ycx_ok {pn:List (Addr × Obj)} {E1:Value→Shared→Prop} (ok:X.Ok):(ycx X pn E1).Ok:=
  ⟨ok.mod,ok.kind,ok.glob,ok.blt,ok.above,ok.inj,ok.has,ok.cab,ok.hd,ok.frames,ok.stk,ok.exf,ok.bs,ok.bsz,ok.noex,ok.exfs,ok.funs,ok.frf⟩
theorem ycx_un {pn:List (Addr × Obj)} {E1:Value→Shared→Prop} (ok:(ycx X pn E1).Ok):X.Ok:=
  ⟨ok.mod,ok.kind,ok.glob,ok.blt,ok.above,ok.inj,ok.has,ok.cab,ok.hd,ok.frames,ok.stk,ok.exf,ok.bs,ok.bsz,ok.noex,ok.exfs,ok.funs,ok.frf⟩
theorem xcx_ok {a:Addr} {pn:List (Addr × Obj)} (ok:X.Ok) (hfr:(X.A.mark (some (.ref a))).frames=X.A.frames):(xcx X a pn).Ok:=
  ⟨ok.mod,ok.kind,ok.glob,ok.blt,ok.above,ok.inj,ok.has,ok.cab,fun z=>Bool.noConfusion z,hfr.trans ok.frames,ok.stk,ok.exf,ok.bs,ok.bsz,ok.noex,ok.exfs,ok.funs,ok.frf⟩
noncomputable def Suite (X:Cx) (j:Nat) (suite:List Stmt) (k:Nat) (d:D):Prop:=∀ C:Addr,nsIn X.K mainGlobals (exN k)=some (some (.ref C))→ExK X.K C∧∀ (pn:List (Addr × Obj)) (a:Addr) (oe:Obj) (vs:Array Value),(a,oe) ∈ pn→oe.cls=.ref C→oe.dict=none→oe.data=.fields vs→
  ∃ (t:TS) (v:V),(∀ F,Rep X.K F d v)∧PSs (xcx X a pn) suite t∧∀ (σ:St) (H:Hp) (Dn:Ends),σ.length=X.N.length→σ[j]?=some (some (.ref a))→(∀ H',Same H H'→Dn.rt v H')→t Dn σ H
theorem ds_try (j:Nat) {F0 H0:Hp} {xq:Addr→Hp→Prop} {body:List Stmt} {b₀:Stmt} {suite:List Stmt} {n y:Str} {np hpos pos:Pos} {Dc:Addr} {h:DS→Option Fl} {g:Nat→Option D} (f0:Same F0 H0) (hstk:X.stack=X.env :: X.outer) (hfrm:X.env.frame=some X.env.locals)
    (hmk:∀ a,(X.A.mark (some (.ref a))).frames=X.A.frames)
    (hb:∀ (pn:List (Addr × Obj)) (E1:Value→Shared→Prop) (xq1:Addr→Hp→Prop),Passes (CXE X.K X.prog X.w) (ycx X pn E1) (Ex xq1)→DSs (ycx X pn E1) F0 H0 xq1 body h)
    (hg:Gl X y) (hmD:X.mg y=some (.ref Dc)) (kD:ExK X.K Dc)
    (hs:∀ k d,g k=some d→Suite X j (b₀ :: suite) k d∧∀ C:Addr,nsIn X.K mainGlobals (exN k)=some (some (.ref C))→mroIn X.K C (.ref Dc)=some true)
    (hN:X.N.Nodup) (hloc:X.env.scope.names.lookup n=some .local) (hj:X.N[j]?=some n:=by rfl) (hdy:(y == ("__debug__" : Str))=false:=by decide) :
    DS1 X F0 H0 xq (.Try body [.ExceptHandler (some (.Name y np)) (some n) (b₀ :: suite) hpos] [] [] pos) (dTry h g):=.mk fun pins s σ H Dn I q=>by
  obtain ⟨F,S,sk,o⟩:=q
  have toX:∀ {E1:Value→Shared→Prop} {σ':St} {H':Hp} {s':Shared},Inv (ycx X (X.pn ++ pins) E1) [] σ' H' s'→Inv X pins σ' H' s':=fun {E1 σ' H' s'} I'=>inv_to I' (ycx_un I'.ok) rfl rfl rfl rfl rfl rfl rfl rfl fun p hp=>I'.pin p (by simpa using hp)
  refine wpAny_Try_except (wpAny_mono ((hb (X.pn ++ pins) (fun e s'=>∃ σ' H1 s1,Inv (ycx X (X.pn ++ pins) fun _ _=>False) [] σ' H1 s1∧CXE X.K X.prog X.w X.stack H1 s1 (Ex fun c H'=>h S=some (.ex c)∧Same H0 H') e s') (fun c H'=>h S=some (.ex c)∧Same H0 H') ?pass).h [] s σ H Dn ?inv ⟨F,S,sk,?out⟩) ?ends ?exc)
  case pass=>
    intro pins' σ' H1 s1 e s' I' c
    refine ⟨σ',H1,s1,inv_to I' (ycx_ok (ycx_un I'.ok)) rfl rfl rfl rfl rfl rfl rfl rfl fun p hp=>I'.pin p (List.mem_append_left _ (by simpa using hp)),c⟩
  case inv=>exact inv_to I (ycx_ok I.ok) rfl rfl rfl rfl rfl rfl rfl rfl fun p hp=>I.pin p (by simpa using hp)
  case out=>
    unfold dTry at o
    cases z:h S with
    | none=>rw [z] at o; exact o
    | some fl=>
      rw [z] at o
      cases fl with
      | next S'=>exact o
      | ret d=>exact o
      | brk S'=>exact o
      | cont S'=>exact o
      | ex c=>exact fun H' sm=>⟨rfl,sm⟩
  case ends=>
    intro fl s' hs'
    cases fl with
    | next=>
      obtain ⟨σ',H',I',q⟩:=hs'
      exact pss_nil pins s' σ' H' Dn (toX I') q
    | brk=>obtain ⟨σ',H',I',q⟩:=hs'; exact ⟨σ',H',toX I',q⟩
    | cont=>obtain ⟨σ',H',I',q⟩:=hs'; exact ⟨σ',H',toX I',q⟩
    | ret u=>obtain ⟨v,σ',H',I',r,q⟩:=hs'; exact ⟨v,σ',H',toX I',r,q⟩
  case exc=>
    intro e s' hx
    obtain ⟨σ',H1,s1,I0,a,k,C,T,H',rfl,hos,bare,un,hok,hns,ix,na,nT,fa,fT,k',ek,hS,sm⟩:=hx
    have ek':k=k':=by injection ek
    subst ek'
    unfold dTry at o
    rw [hS] at o
    cases eg:g k with
    | none=>simp only [eg] at o; exact False.elim o
    | some d=>
      simp only [eg] at o
      obtain ⟨hsu,hsub⟩:=hs k d eg
      obtain ⟨kC,hsu⟩:=hsu C hns
      have I1:Inv (ycx X (X.pn ++ pins) fun _ _=>False) [] σ' H' s':=I0.call' hos un hok bare (fun b z=>absurd z (by simp))
      have fr:X.A.frames=some (X.env :: X.outer):=by rw [← hstk]; exact I.ok.frames
      have st:s'.heap.FunFrames X.base (X.env :: X.outer):=by
        have z:s'.heap.FunFrames X.base X.stack:=I1.stack
        rw [hstk] at z; exact z
      refine note_next fr st hfrm ix fun h2 T2 a1 a2 a3 ix2=>?_
      refine flight_ok (s:={ s' with heap:=h2 }) (fr:=none) ix2 fun h3 sb3 ix3=>?_
      have frf:∀ b ∈ frs X.stack,H' b=none:=I1.stkFree
      have neT:∀ b o,s'.heap.get? b=some o→b ≠ T2:=fun b o z=>Nat.ne_of_lt (Nat.lt_of_lt_of_le (Heap.lt_size z) a1)
      have k1:∀ b o,b ∉ frs X.stack→b ≠ a→b ≠ T→s'.heap.get? b=some o→h3.get? b=some o:=fun b o n1 n2 n3 z=>by
        rw [sb3.2 b (neT b o z)]; exact a2 b o (by rw [hstk] at n1; exact n1) n2 n3 z
      have k2:∀ b o,b ≠ a→b ≠ T→s'.heap.get? b=some o→∃ sl,h3.get? b=some { o with slots:=sl }:=fun b o n2 n3 z=>by
        obtain ⟨sl,y'⟩:=a3 b o n2 n3 z
        exact ⟨sl,by rw [sb3.2 b (neT b o z)]; exact y'⟩
      have I3:Inv (ycx X (X.pn ++ pins) fun _ _=>False) [] σ' H' { s' with heap:=h3 }:=I0.call' hos (un_noted un na nT k1 k2) (hok_noted hok fa fT frf k1) bare (fun b z=>absurd z (by simp))
      have K3:X.K.In h3:=I3.kIn
      have okx:=I.ok
      have toM:∀ {hz:Heap} {tz:Nat},Inv (ycx X (X.pn ++ pins) fun _ _=>False) [] σ' H' { s' with heap:=hz,toks:=tz }→Inv (xcx X a (X.pn ++ pins)) [] σ' H' { s' with heap:=hz,toks:=tz }:=fun J=>inv_to J (xcx_ok okx (hmk a)) rfl rfl rfl rfl rfl rfl rfl rfl fun p hp=>J.pin p hp
      have J3:Inv (xcx X a (X.pn ++ pins)) [] σ' H' { s' with heap:=h3 }:=toM I3
      refine wpAny_handleBy_cons (codeAny_handlers_test (ld_glob (X:=xcx X a (X.pn ++ pins)) J3 hg hmD ?_ hdy)) (by intro q; cases q)
      obtain ⟨oe3,vs3,oT3,ts3,e3,c3,d3,f3⟩:=id ix3
      refine matches_ok (s:={ s' with heap:=h3 }) kD (hsub C hns) K3 e3 c3.1 ?_
      refine codeAny_handlers_suite_as ?_
      refine flight_ok (s:={ s' with heap:=h3 }) (fr:=none) ix3 fun h4 sb4 ix4=>?_
      have l1:∀ b o,b ∉ frs X.stack→b ≠ a→b ≠ T→s'.heap.get? b=some o→h4.get? b=some o:=fun b o n1 n2 n3 z=>by
        rw [sb4.2 b (neT b o z)]; exact k1 b o n1 n2 n3 z
      have l2:∀ b o,b ≠ a→b ≠ T→s'.heap.get? b=some o→∃ sl,h4.get? b=some { o with slots:=sl }:=fun b o n2 n3 z=>by
        obtain ⟨sl,y'⟩:=k2 b o n2 n3 z
        exact ⟨sl,by rw [sb4.2 b (neT b o z)]; exact y'⟩
      have I4:Inv (ycx X (X.pn ++ pins) fun _ _=>False) [] σ' H' { s' with heap:=h4 }:=I0.call' hos (un_noted un na nT l1 l2) (hok_noted hok fa fT frf l1) bare (fun b z=>absurd z (by simp))
      obtain ⟨oe,vs,oT,ts,e4,c4,d4,f4⟩:=id ix4
      have J4:Inv (xcx X a (X.pn ++ pins ++ [(a,oe)])) [] σ' H' { s' with heap:=h4 }:=by
        refine inv_to I4 (xcx_ok okx (hmk a)) rfl rfl rfl rfl rfl rfl rfl rfl fun p hp=>?_
        have hp':p ∈ (X.pn ++ pins) ++ [(a,oe)]:=by simpa using hp
        rcases List.mem_append.mp hp' with hp1 | hp1
        · exact I4.pin p (List.mem_append_left _ hp1)
        · have:p=(a,oe):=by simpa using hp1
          subst this
          refine ⟨e4,fa,fun z=>?_,fun z=>?_,fun v z=>?_⟩
          · obtain ⟨m,⟨oL,_,_,hoL,_⟩,_⟩:=id I0.loc
            have z':a=X.env.locals:=z
            rw [← z',na] at hoL; cases hoL
          · have q1:a ∈ frs X.stack:=by
              rw [hstk]
              unfold frs
              rw [List.filterMap_cons,hfrm]
              exact List.mem_cons_of_mem _ z
            have q2:s1.heap.FunFrames X.base X.stack:=I0.stack
            obtain ⟨_,o',ho',_⟩:=q2.mem q1
            rw [na] at ho'; cases ho'
          · have z':oe.data=.cell v:=z
            rw [d4] at z'; cases z'
      refine store_ok (X:=xcx X a (X.pn ++ pins ++ [(a,oe)])) J4 hN hj (Or.inl hloc) (v:=.ref a) rfl (fun s5 I5=>?_) (Or.inr hloc)
      obtain ⟨t,v,rep,ps,ht⟩:=hsu (X.pn ++ pins ++ [(a,oe)]) a oe vs (List.mem_append_right _ (by simp)) c4.1 c4.2 d4
      have lσ:σ'.length=X.N.length:=I0.len
      have jl:j < σ'.length:=by rw [lσ]; exact (List.getElem?_eq_some_iff.mp hj).1
      refine wpAny_mono (ps [] s5 (σ'.set j (some (.ref a))) H' { nx:=fun _ _=>False,rt:=fun u H2=>u=v∧Same H' H2 } I5 (ht _ _ _ (by rw [List.length_set]; exact lσ) (set_self jl) fun H2 z=>⟨rfl,z⟩)) (fun fl s6 h6=>?_) (fun _ _ z=>False.elim z)
      cases fl with
      | next=>obtain ⟨_,_,_,z⟩:=h6; exact False.elim z
      | brk=>obtain ⟨_,_,_,z⟩:=h6; exact False.elim z
      | cont=>obtain ⟨_,_,_,z⟩:=h6; exact False.elim z
      | ret u=>
        obtain ⟨v',σ6,H6,I6,rv,ev,sm6⟩:=h6
        subst ev
        have I6':Inv X pins σ6 H6 s6:=inv_to I6 okx rfl rfl rfl rfl rfl rfl rfl rfl fun p hp=>I6.pin p (List.mem_append_left _ (List.mem_append_left _ hp))
        obtain ⟨m6,hn6,_⟩:=id I6'.loc
        refine wpAny_nameGoes hloc hn6 (by rw [I.ok.kind]; rfl) fun h7 m7 hn7 sb7=>?_
        exact ⟨v',_,H6,inv_lost I6' hn7 sb7,rv,o v' F0 H6 ⟨Same.refl _,sm.trans sm6,f0.trans (sm.trans sm6),fun _ _ _ f=>f⟩ (rep F0)⟩
end
end PF
set_option Elab.async false
set_option linter.all false
set_option maxRecDepth 100000
set_option maxHeartbeats 4000000
namespace PF
open PySem PySem.Spec PySem.W L2
open PyProof.Rows hiding St InstAt
theorem Fun.dh {P:Program} {w:World} {K:PySem.W.Frag} {mg:Str→Option Value} {base:Heap} {x qual:Str} {st:Stmt} {f:Addr} {fd:FuncData} {N ps:List Str} {k:Nat} {m:List D→M D} {g:DS→Option Fl} (F:Fun K x qual st f fd) (Sc:FnScope N ps (defScope st))
    (hb:∀ (cdv:Value) (A:Around) (outer:List Env) (s:Shared) (H:Hp) (E:XK),Room k (A.deeper (envOfC qual (defScope st) s.heap.objs.size f cdv))→∀ F0 H0:Hp,Same F0 H0→DSs (cxOf CX0 P w K mg base N qual (defScope st) f cdv A outer s H E).nox F0 H0 noX (defBody st) g)
    (hg:∀ ds r,ds.length=ps.length→m ds=some r→∃ d,r=.ok d∧fin (g (startD N ds))=some (.ok d)):FnOk P w K mg base CX0 (k + 1) f fd ps (spM K ps.length m):=by
  refine F.ok Sc (fun vs H Q E h=>spM_len h) fun cdv A outer s H vs Q E hr h=>?_
  obtain ⟨F1,ds,fh,r,l,o⟩:=h
  refine ⟨_,(hb cdv A outer s H E hr F1 H fh).h,F1,startD N ds,start_ok fh r,?_⟩
  cases z:m ds with
  | none=>rw [z] at o; exact False.elim o
  | some y=>
    rw [z] at o
    obtain ⟨d,rfl,e⟩:=hg ds y l z
    cases q:g (startD N ds) with
    | none=>rw [q] at e; cases e
    | some fl=>
      rw [q] at e
      cases fl with
      | next S=>
        have ed:D.non=d:=by injection e with e; injection e
        subst ed
        exact fun σ' F' H' sk=>o .non F' H' sk.ext rfl
      | ret d'=>
        have ed:d'=d:=by injection e with e; injection e
        subst ed
        exact fun v F' H' ex rp=>o v F' H' ex rp
      | brk S=>cases e
      | cont S=>cases e
      | ex c=>injection e with e; cases e
noncomputable def dNoX (f:DS→Option Fl):DS→Option Fl:=fun S=>match f S with
  | some (.ex _)=>none
  | x=>x
theorem dss_nox {X:Cx} {F0 H0:Hp} {xq:Addr→Hp→Prop} {st:List Stmt} {f:DS→Option Fl} (h:DSs X.nox F0 H0 noX st f):DSs X F0 H0 xq st (dNoX f):=.mk fun pins s σ H Dn I ⟨F,S,sk,o⟩=>by
  refine h.h.nox pins s σ H Dn I ⟨F,S,sk,?_⟩
  unfold dNoX at o
  cases z:f S with
  | none=>rw [z] at o; exact False.elim o
  | some fl=>
    rw [z] at o
    cases fl with
    | ex c=>exact False.elim o
    | next S'=>exact o
    | ret d=>exact o
    | brk S'=>exact o
    | cont S'=>exact o
section
variable {X:Cx} {C0 C1 C2 C3:Addr}
structure Four (K:PySem.W.Frag) (mg:Str→Option Value) (C0 C1 C2 C3:Addr):Prop where
  n0:nsIn K mainGlobals "FoldError" = some (some (.ref C0))
  n1:nsIn K mainGlobals "NoSum" = some (some (.ref C1))
  n2:nsIn K mainGlobals "NoText" = some (some (.ref C2))
  n3:nsIn K mainGlobals "NoPart" = some (some (.ref C3))
  g0:mg "FoldError" = some (.ref C0)
  g1:mg "NoSum" = some (.ref C1)
  g2:mg "NoText" = some (.ref C2)
  g3:mg "NoPart" = some (.ref C3)
  gv:mg "ValueError" = none
  gi:mg "isinstance" = none
  gt:mg "int" = none
theorem kit_of {K:PySem.W.Frag} {C D:Addr} {b:Bool} (self:mroIn K C (.ref C)=some true) (m:mroIn K C (.ref D)=some b) (ty:typeIn K (.ref D)=some (.type "type")) (ic:isClsIn K D=true):kitOne K (.ref C) (.ref D)=some b:=by
  unfold kitOne
  split
  · next q=>
    have e:C=D:=Value.ref.inj (beq_iff_eq.mp q)
    subst e
    rw [self] at m; exact m
  · have ic':(clsIn K D).isSome=true:=ic
    show (if ((clsIn K D).isSome && typeIn K (.ref D) == some (.type "type"))=true then subIn K (.ref C) (.ref D) else none)=some b
    rw [ic',ty,if_pos (by decide)]
    exact m
theorem gsel {j:Nat} {suite:List Stmt} {Dc:Addr} (k0:Nat) (d0:D) {C:Addr} (hs:Suite X j suite k0 d0) (hn:nsIn X.K mainGlobals (exN k0)=some (some (.ref C))) (hm:mroIn X.K C (.ref Dc)=some true) :
    ∀ k d,(if k=k0 then some d0 else none)=some d→Suite X j suite k d∧∀ C':Addr,nsIn X.K mainGlobals (exN k)=some (some (.ref C'))→mroIn X.K C' (.ref Dc)=some true:=by
  intro k d e
  split at e
  · next q=>
    subst q
    have e':d0=d:=Option.some.inj e
    subst e'
    refine ⟨hs,fun C' hC=>?_⟩
    have z:=hC.symm.trans hn
    injection z with z; injection z with z; injection z with z
    rw [z]; exact hm
  · cases e
end
end PF
set_option Elab.async false
set_option linter.all false
set_option maxRecDepth 100000
set_option maxHeartbeats 4000000
namespace PF
open PySem PySem.Spec PySem.W L2
open PyProof.Rows hiding St InstAt
section
variable {X:Cx} {F0 H0:Hp} {xq:Addr→Hp→Prop} {a b e:Expr} {fa fb:DS→M VR} {pos p2:Pos}
noncomputable def rSlS:V→Option Int→Option Int→Hp→VK→Prop:=fun x lo hi H Q=>∃ z:Str,x=.str z∧z.length ≤ sizeLine∧Q (.str (Txt.slice z lo hi)) H
theorem sl_str:SlR X rSlS:=by
  intro pins s σ H x v vl vu lo hi sl Q I rx hs pl pu h
  obtain ⟨z,rfl,hz,q⟩:=h
  obtain ⟨t,rfl⟩:=rx
  refine ⟨"str",_,PySem.F.slot_str_getitem.lookup,typeIs_str _ _ _,?_⟩
  have fin:∀ (t':Tok) (k:Nat),EP X pins σ Q (.str (Txt.slice z lo hi) t') { s with toks:=k }:=fun t' k=>⟨.str _,H,I.tok k,⟨t',rfl⟩,q⟩
  cases pl with
  | none=>
    cases pu with
    | none=>exact wpAny_getItem_str_slice (l:=none) (u:=none) (st:=none) hs rfl (post_val_or_str ⟨Nat.le_trans (Txt.slice_le z _ _) hz,fun t' k=>fin t' k⟩)
    | int j u=>exact wpAny_getItem_str_slice (l:=none) (u:=some (j,u)) (st:=none) hs rfl (post_val_or_str ⟨Nat.le_trans (Txt.slice_le z _ _) hz,fun t' k=>fin t' k⟩)
  | int i w=>
    cases pu with
    | none=>exact wpAny_getItem_str_slice (l:=some (i,w)) (u:=none) (st:=none) hs rfl (post_val_or_str ⟨Nat.le_trans (Txt.slice_le z _ _) hz,fun t' k=>fin t' k⟩)
    | int j u=>exact wpAny_getItem_str_slice (l:=some (i,w)) (u:=some (j,u)) (st:=none) hs rfl (post_val_or_str ⟨Nat.le_trans (Txt.slice_le z _ _) hz,fun t' k=>fin t' k⟩)
noncomputable def sliceS (d:D) (lo hi:Option Int):Option D:=match d with
  | .str z=>if z.length ≤ big then some (.str (Txt.slice z lo hi)) else none
  | _=>none
noncomputable def dSliceS (f:DS→M VR) (fl fh:DS→M (Option Int)):DS→M VR:=fun S=>mb (f S) fun r=>mb (fl S) fun lo=>mb (fh S) fun hi=>vr (sliceS (toD r) lo hi)
theorem de_sliceS {lo hi:Option Expr} {fl fh:DS→M (Option Int)} (ha:DE X F0 H0 xq a fa) (hl:DO X F0 H0 xq lo fl) (hh:DO X F0 H0 xq hi fh):DE X F0 H0 xq (.Subscript a (.Slice lo hi none p2) pos) (dSliceS fa fl fh):=.mk fun pins s σ H Q I q=>by
  refine pe_slice sl_str ha.h hl.h hh.h pins s σ H Q I ?_
  obtain ⟨F,S,sk,o⟩:=q
  refine ⟨F,S,sk,outE.mb o fun r v F1 H1 e1 q1 o1=>?_⟩
  refine ⟨F1,S,sk.step e1,outO.bind (G:=fun F H z=>outE X.K H0 xq F H Q z) (fun e h=>h.step e) (fun _ _ h=>h) (fun _ _ _ h=>h) o1 fun lo F2 H2 e2 o2=>?_⟩
  refine ⟨F2,S,(sk.step e1).step e2,outO.bind (G:=fun F H z=>outE X.K H0 xq F H Q z) (fun e h=>h.step e) (fun _ _ h=>h) (fun _ _ _ h=>h) o2 fun hi F3 H3 e3 o3=>?_⟩
  have rv:=RR.rv e3.fh (RR.step e3 (RR.step e2 q1))
  generalize toD r=d at rv o3
  cases d <;> first | (exact False.elim o3) | skip
  rename_i z
  have hz:z.length ≤ big:=by
    apply Classical.byContradiction
    intro n
    have o4:outE X.K H0 xq F3 H3 Q (vr (if z.length ≤ big then some (.str (Txt.slice z lo hi)) else none)):=o3
    rw [if_neg n] at o4
    exact o4
  have o4:outE X.K H0 xq F3 H3 Q (vr (if z.length ≤ big then some (.str (Txt.slice z lo hi)) else none)):=o3
  rw [if_pos hz] at o4
  exact ⟨z,rv,big_le hz,o4 _ F3 H3 (Ext.refl e3.fh) rfl⟩
noncomputable def asS:List D→Option (List Str)
  | []=>some []
  | .str b :: l=>(asS l).map (b :: ·)
  | _ :: _=>none
theorem asS_rep {K:PySem.W.Frag} {F:Hp}:∀ {l:List D} {bs:List Str} {vs:List V},asS l=some bs→RepL K F l vs→vs=bs.map V.str
  | [],bs,vs,e,r=>by
    have e':=Option.some.inj e
    subst e'
    exact r
  | .str b :: l,bs,vs,e,r=>by
    obtain ⟨v,t,rfl,q,r⟩:=r
    obtain rfl:v=.str b:=q
    have e2:(asS l).map (b :: ·)=some bs:=e
    cases z:asS l with
    | none=>rw [z] at e2; cases e2
    | some l'=>
      rw [z] at e2
      have e':=Option.some.inj e2
      subst e'
      rw [asS_rep z r]; rfl
  | .non :: _,_,_,e,_=>by cases e
  | .int _ :: _,_,_,e,_=>by cases e
  | .bl _ :: _,_,_,e,_=>by cases e
  | .tup _ :: _,_,_,e,_=>by cases e
  | .lst _ :: _,_,_,e,_=>by cases e
  | .scr _ :: _,_,_,e,_=>by cases e
  | .dic _ _ :: _,_,_,e,_=>by cases e
theorem strs_are:∀ {ys:List Str} {us:List Value},Vals (ys.map V.str) us→StrsAre us ys
  | [],_,.nil=>.nil
  | y :: ys,_,.cons r t=>by
    obtain ⟨k,rfl⟩:=r
    exact .cons y k (strs_are t)
noncomputable def joinFit (x:Str) (ys:List Str):Bool:=decide (x.length ≤ 16∧(ys.map (·.length)).sum + ys.length ≤ 1048576)
noncomputable def rJoin (K:PySem.W.Frag):V→List V→Hp→VK→Prop:=fun v xs H Q=>∃ (x:Str) (p:Addr) (ys:List Str),v=.str x∧xs=[.ref p]∧SqL K H p (ys.map V.str)∧joinFit x ys=true∧Q (.str (Txt.join x ys)) H
theorem mt_join:MtR X "str.join" (rJoin X.K):=by
  intro pins s σ H x xs v us Q I rx rs h
  obtain ⟨z,p,ys,rfl,rfl,hq,fit,q⟩:=h
  obtain ⟨t,rfl⟩:=rx
  obtain ⟨u,rfl,ru⟩:=vals1 rs
  cases ru
  obtain ⟨its,rv,pl,hz⟩:=I.list hq
  have fit':=of_decide_eq_true fit
  exact join_listW pl.isList (strs_are rv) fit'.1 fit'.2 fun t' k=>⟨.str _,H,I.tok k,⟨t',rfl⟩,q⟩
noncomputable def opJoin (x:Str):D→Option D
  | .lst l=>match asS l with
    | some ys=>if joinFit x ys=true then some (.str (Txt.join x ys)) else none
    | none=>none
  | _=>none
noncomputable def dJoin (fa fb:DS→M VR):DS→M VR:=fun S=>mb (fa S) fun r1=>match toD r1 with
  | .str x=>mb (fb S) fun r2=>vr (opJoin x (toD r2))
  | _=>none
theorem de_join {apos cpos:Pos} (ha:DE X F0 H0 xq a fa) (hb:DE X F0 H0 xq b fb) (hbase:attributeBase a "join" X.env (eval a X.env)=eval a X.env:=by rfl)
    (hfew:((backTo cpos (starEach [b] X.env)).all (fun x=>!x.1) && (backToKw cpos (keywordEach [] X.env)).all (fun x=>x.1.isSome) && decide (([b]:List Expr).length + ([]:List Keyword).length + (if ([]:List Keyword).isEmpty then 0 else 1) < 30))=true:=by rfl)
    (hline:(apos.endLine == cpos.line)=true:=by rfl) (hs:starEach [b] X.env=(false,eval b X.env) :: starEach [] X.env:=by rfl) :
    DE X F0 H0 xq (.Call (.Attribute a "join" apos) [b] [] cpos) (dJoin fa fb):=.mk fun pins s σ H Q I q=>by
  refine pe_bm PySem.F.plainAttrs_str PySem.F.slot_str_join PySem.F.type_str_join mt_join ha.h (pa_cons hb.h pa_nil hs) hbase hfew hline hs rfl pins s σ H Q I ?_
  obtain ⟨F,S,sk,o⟩:=q
  refine ⟨F,S,sk,outE.mb o fun r v F1 H1 e1 q1 o1=>?_⟩
  have rv:=RR.rv e1.fh q1
  generalize toD r=d at rv o1
  cases d <;> first | (exact False.elim o1) | skip
  rename_i z
  have hv:v=.str z:=rv
  subst hv
  refine ⟨rfl,F1,S,sk.step e1,outE.mb o1 fun r2 v2 F2 H2 e2 q2 o2=>?_⟩
  have rv2:=RR.rv e2.fh q2
  generalize toD r2=d2 at rv2 o2
  cases d2 <;> first | (exact False.elim o2) | skip
  rename_i l
  obtain ⟨p,vs,rfl,hp,rl⟩:=rv2
  have o3:outE X.K H0 xq F2 H2 Q (vr (match asS l with
    | some ys=>if joinFit z ys=true then some (.str (Txt.join z ys)) else none
    | none=>none)):=o2
  cases es:asS l with
  | none=>rw [es] at o3; exact False.elim o3
  | some ys=>
    rw [es] at o3
    have ev:=asS_rep es rl
    subst ev
    by_cases fit:joinFit z ys=true
    · simp only [if_pos fit] at o3
      exact ⟨z,p,ys,rfl,rfl,SqL.of hp,fit,o3 _ F2 H2 (Ext.refl e2.fh) rfl⟩
    · simp only [if_neg fit] at o3
      exact False.elim o3
end
end PF
set_option Elab.async false
set_option linter.all false
set_option maxRecDepth 100000
set_option maxHeartbeats 4000000
namespace PF
open PySem PySem.Spec PySem.W L2
open PyProof.Rows hiding St InstAt
section
variable {X:Cx}
end
section
variable {X:Cx} {C0 C1 C2 C3:Addr}
theorem kit_ve {K:PySem.W.Frag} {C:Addr} (mv:mroIn K C (.type "ValueError")=some true):kitOne K (.ref C) (.type "ValueError")=some true:=by
  unfold kitOne
  rw [if_neg (by intro q; cases beq_iff_eq.mp q)]
  show (if kitMeta "ValueError" = true then subIn K (.ref C) (.type "ValueError") else none)=some true
  rw [if_pos (by decide +kernel)]
  exact mv
end
end PF
set_option Elab.async false
set_option linter.all false
set_option maxRecDepth 100000
namespace L2
open PySem PySem.Spec PyProof.Rows
section
variable {κ:Type} [DecidableEq κ]
noncomputable def valV (kvs:List (κ × V)) (k:κ):Option V:=(kvs.find? fun kv=>decide (kv.1=k)).map (·.2)
noncomputable def putK (kvs:List (κ × V)) (k:κ) (v:V):List (κ × V):=
  if (kvs.any fun kv=>decide (kv.1=k))=true then kvs.map (fun kv=>if kv.1=k then (kv.1,v) else kv) else kvs ++ [(k,v)]
theorem valV_pos {p:κ × V} {r:List (κ × V)} {k:κ} (e:p.1=k):valV (p :: r) k=some p.2:=by simp [valV,List.find?_cons,e]
theorem valV_neg {p:κ × V} {r:List (κ × V)} {k:κ} (e:¬ p.1=k):valV (p :: r) k=valV r k:=by simp [valV,List.find?_cons,e]
theorem valV_any (k:κ):∀ kvs:List (κ × V),(kvs.any fun kv=>decide (kv.1=k))=(valV kvs k).isSome
  | []=>rfl
  | p :: r=>by
    rw [List.any_cons]
    by_cases e:p.1=k
    · simp only [valV_pos e,decide_eq_true e,Bool.true_or,Option.isSome_some]
    · rw [valV_neg e,decide_eq_false e,Bool.false_or]; exact valV_any k r
theorem length_putK (kvs:List (κ × V)) (k:κ) (v:V):(putK kvs k v).length ≤ kvs.length + 1:=by
  unfold putK
  split
  · rw [List.length_map]; omega
  · rw [List.length_append,List.length_cons,List.length_nil]; omega
theorem RelO.isSome_eq {o:Option V} {u:Option Value} (r:RelO o u):o.isSome=u.isSome:=by
  cases o with
  | none=>cases u with
    | none=>rfl
    | some _=>exact (show False from r).elim
  | some _=>cases u with
    | none=>exact (show False from r).elim
    | some _=>rfl
theorem KV.val {kvs:List (κ × V)} {vs:List (κ × Value)} (r:KV kvs vs) (k:κ):RelO (valV kvs k) (valueAt vs k):=by
  unfold KV at r
  induction r with
  | nil=>exact True.intro
  | @cons p q ps qs h t ih=>
    obtain ⟨h1,h2⟩:=h
    by_cases e:p.1=k
    · have e':q.1=k:=h1.symm.trans e
      have b:valueAt (q :: qs) k=some q.2:=by simp [valueAt,List.find?_cons,e']
      rw [valV_pos e,b]; exact h2
    · have e':¬ q.1=k:=fun z=>e (h1.trans z)
      have b:valueAt (q :: qs) k=valueAt qs k:=by simp [valueAt,List.find?_cons,e']
      rw [valV_neg e,b]; exact ih
theorem KV.any {kvs:List (κ × V)} {vs:List (κ × Value)} (r:KV kvs vs) (k:κ):(kvs.any fun kv=>decide (kv.1=k))=vs.any fun kv=>decide (kv.1=k):=by
  unfold KV at r
  induction r with
  | nil=>rfl
  | cons h t ih=>rw [List.any_cons,List.any_cons,ih,h.1]
theorem KV.repl {kvs:List (κ × V)} {vs:List (κ × Value)} (r:KV kvs vs) (k:κ) {y:V} {u:Value} (ry:RelV y u) :
    KV (kvs.map fun kv=>if kv.1=k then (kv.1,y) else kv) (vs.map fun kv=>if kv.1=k then (kv.1,u) else kv):=by
  unfold KV at r ⊢
  induction r with
  | nil=>exact .nil
  | @cons p q ps qs h t ih=>
    rw [List.map_cons,List.map_cons]
    refine .cons ?_ ih
    obtain ⟨h1,h2⟩:=h
    by_cases e:p.1=k
    · rw [if_pos e,if_pos (h1.symm.trans e)]; exact ⟨h1,ry⟩
    · rw [if_neg e,if_neg (fun z=>e (h1.trans z))]; exact ⟨h1,h2⟩
theorem KV.put {kvs:List (κ × V)} {vs:List (κ × Value)} (r:KV kvs vs) (k:κ) {y:V} {u:Value} (ry:RelV y u):KV (putK kvs k y) (stored vs k u):=by
  unfold putK stored
  rw [r.any k]
  by_cases e:(vs.any fun kv=>decide (kv.1=k))=true
  · rw [if_pos e,if_pos e]; exact r.repl k ry
  · rw [if_neg e,if_neg e]; exact Paired.snoc r ⟨rfl,ry⟩
theorem KV.length {kvs:List (κ × V)} {vs:List (κ × Value)} (r:KV kvs vs):kvs.length=vs.length:=Paired.length r
end
theorem kV_is {P:Program} {w:World} {k:Key} {u:Value} (r:RelV (kV k) u):(mixKind P w).is k u=true:=by
  cases k with
  | inl i=>obtain ⟨t,e⟩:=(show ∃ t,u=Value.int i t from r); subst e; exact mixKind_int P w i t
  | inr x=>obtain ⟨t,e⟩:=(show ∃ t,u=Value.str x t from r); subst e; exact mixKind_str P w x t
theorem items_are {P:Program} {w:World}:∀ {ks:List Key} {us:List Value},Vals (ks.map kV) us→ItemsAre (mixKind P w) ks us
  | [],_,r=>by rw [List.map_nil] at r; cases r; exact .nil
  | k :: ks,_,r=>by
    rw [List.map_cons] at r
    cases r with
    | cons h t=>exact .cons (kV_is h) (items_are t)
noncomputable abbrev KT (H:Hp):List (List Key × V)→List (List Key × Addr × Value)→Prop:=Paired fun p q=>p.1=q.1∧H q.2.1=some (.tup (p.1.map kV))∧RelV p.2 q.2.2
theorem KT.val {H:Hp} {kvs:List (List Key × V)} {xs:List (List Key × Addr × Value)} (r:KT H kvs xs) (k:List Key):RelO (valV kvs k) ((atKey xs k).map (·.2)):=by
  induction r with
  | nil=>exact True.intro
  | @cons p q ps qs h t ih=>
    obtain ⟨h1,_,h2⟩:=h
    by_cases e:p.1=k
    · have e':q.1=k:=h1.symm.trans e
      have b:atKey (q :: qs) k=some q.2:=by simp [atKey,List.find?_cons,e']
      rw [valV_pos e,b]; exact h2
    · have e':¬ q.1=k:=fun z=>e (h1.trans z)
      have b:atKey (q :: qs) k=atKey qs k:=by simp [atKey,List.find?_cons,e']
      rw [valV_neg e,b]; exact ih
theorem KT.repl {H:Hp} {kvs:List (List Key × V)} {xs:List (List Key × Addr × Value)} (r:KT H kvs xs) (k:List Key) {y:V} {u:Value} (ry:RelV y u) :
    KT H (kvs.map fun kv=>if kv.1=k then (kv.1,y) else kv) (xs.map (putAt k u)):=by
  induction r with
  | nil=>exact .nil
  | @cons p q ps qs h t ih=>
    rw [List.map_cons,List.map_cons]
    refine .cons ?_ ih
    obtain ⟨h1,h2,h3⟩:=h
    unfold putAt
    by_cases e:p.1=k
    · rw [if_pos e,if_pos (h1.symm.trans e)]; exact ⟨h1,h2,ry⟩
    · rw [if_neg e,if_neg (fun z=>e (h1.trans z))]; exact ⟨h1,h2,h3⟩
theorem KT.put {H:Hp} {kvs:List (List Key × V)} {xs:List (List Key × Addr × Value)} (r:KT H kvs xs) (k:List Key) {b:Addr} {y:V} {u:Value} (hb:H b=some (.tup (k.map kV))) (ry:RelV y u) :
    KT H (putK kvs k y) (storedH xs k b u):=by
  have e:(kvs.any fun kv=>decide (kv.1=k))=(atKey xs k).isSome:=by
    rw [valV_any,(r.val k).isSome_eq,Option.isSome_map]
  unfold putK storedH
  rw [e]
  by_cases q:(atKey xs k).isSome=true
  · rw [if_pos q,if_pos q]; exact r.repl k ry
  · rw [if_neg q,if_neg q]; exact Paired.snoc r ⟨rfl,hb,ry⟩
theorem KT.keeps {H H':Hp} {kvs:List (List Key × V)} {xs:List (List Key × Addr × Value)} (r:KT H kvs xs) (ht:∀ b ys,H b=some (.tup ys)→H' b=some (.tup ys)):KT H' kvs xs:=
  Paired.mapP r fun _ _ z=>⟨z.1,ht _ _ z.2.1,z.2.2⟩
section
variable {P:Program} {w:World} {H:Hp} {h:Heap} {a:Addr}
theorem rd_of {u:HO} (ok:HOk P w H h) (e:Rd H a u):ObjOk P w H h a u:=e.ok ok
theorem dk_rd {kvs:List (Key × V)} (ok:HOk P w H h) (e:Rd H a (.dK kvs)):kvs.length ≤ sizeLine∧(a == sysModules)=false∧∃ vs,KV kvs vs∧h.DictOf (mixKind P w) a vs:=
  show ObjOk P w H h a (.dK kvs) from rd_of ok e
theorem dk_of {kvs:List (Key × V)} (ok:HOk P w H h) (e:H a=some (.dK kvs)):kvs.length ≤ sizeLine∧(a == sysModules)=false∧∃ vs,KV kvs vs∧h.DictOf (mixKind P w) a vs:=dk_rd ok (.inl e)
theorem key_of {ks:List Key} (ok:HOk P w H h) (e:H a=some (.tup (ks.map kV))):(tupleKind (mixKind P w)).is h ks a:=by
  obtain ⟨_,its,r,o,h1,h2,n,h3⟩:=(show ObjOk P w H h a (.tup (ks.map kV)) from ok a _ e)
  exact ⟨o,its.toArray,n,h1,h2,h3,by simpa using items_are r⟩
theorem dt_rd {kvs:List (List Key × V)} (ok:HOk P w H h) (e:Rd H a (.dT kvs)):kvs.length ≤ sizeLine∧(a == sysModules)=false∧
    ∃ xs,KT H kvs xs∧h.DictOfH (tupleKind (mixKind P w)) a xs:=by
  obtain ⟨z,y,xs,r,o,es,ep,h1,h2,h3,h4,h5⟩:=(show ObjOk P w H h a (.dT kvs) from rd_of ok e)
  refine ⟨z,y,xs,r,o,es,ep,h1,h2,h3,h4,fun x hx=>?_,h5⟩
  have all:∀ {l:List (List Key × V)} {m:List (List Key × Addr × Value)},KT H l m→∀ x ∈ m,(tupleKind (mixKind P w)).is h x.1 x.2.1:=by
    intro l m q
    induction q with
    | nil=>intro x hx; exact nomatch hx
    | @cons p q ps qs hq t ih=>
      intro x hx
      rcases List.mem_cons.mp hx with e | hx
      · subst e
        exact key_of ok (by rw [← hq.1]; exact hq.2.1)
      · exact ih x hx
  exact all r x hx
theorem dt_of {kvs:List (List Key × V)} (ok:HOk P w H h) (e:H a=some (.dT kvs)):kvs.length ≤ sizeLine∧(a == sysModules)=false∧
    ∃ xs,KT H kvs xs∧h.DictOfH (tupleKind (mixKind P w)) a xs:=dt_rd ok (.inl e)
end
noncomputable def DGet (H:Hp) (a:Addr) (y:V) (r:Option V):Prop:=
  (∃ kvs k,Rd H a (.dK kvs)∧y=kV k∧r=valV kvs k)∨∃ kvs k b,Rd H a (.dT kvs)∧y=.ref b∧H b=some (.tup (k.map kV))∧r=valV kvs k
noncomputable def DPut (H:Hp) (a:Addr) (y v:V) (H':Hp):Prop:=
  (∃ kvs k,H a=some (.dK kvs)∧y=kV k∧kvs.length < sizeLine∧H'=upd H a (.dK (putK kvs k v)))∨
  ∃ kvs k b,H a=some (.dT kvs)∧y=.ref b∧H b=some (.tup (k.map kV))∧kvs.length < sizeLine∧H'=upd H a (.dT (putK kvs k v))
theorem DGet.k {H:Hp} {a:Addr} {kvs:List (Key × V)} {k:Key} (e:H a=some (.dK kvs)):DGet H a (kV k) (valV kvs k):=.inl ⟨kvs,k,.inl e,rfl,rfl⟩
theorem DPut.k {H:Hp} {a:Addr} {kvs:List (Key × V)} {k:Key} {v:V} (e:H a=some (.dK kvs)) (hl:kvs.length < sizeLine):DPut H a (kV k) v (upd H a (.dK (putK kvs k v))):=.inl ⟨kvs,k,e,rfl,hl,rfl⟩
section
variable {X:Cx} {pins:List (Addr × Obj)} {σ:St} {H:Hp} {s:Shared} {a:Addr} {y v:V} {u r:Value} {o:Option V} {A:Around} {E:Value→Shared→Prop}
theorem Inv.big (I:Inv X pins σ H s):sysModules < s.heap.objs.size:=by
  have h:mainGlobals < s.heap.objs.size:=(I.mod.glob.keeps I.bk).lt
  exact Nat.lt_trans (by decide) h
theorem d_getItem {Q:Value→Shared→Prop} (hu:A.units + 1 < cLine) (I:Inv X pins σ H s) (g:DGet H a y (some v)) (ry:RelV y u) (h:∀ w' s',Inv X pins σ H s'→RelV v w'→Q w' s') :
    wpAny (model X.prog X.w) A (getItem (.ref a) u) Q E s:=by
  rcases g with ⟨kvs,k,e,ey,l⟩ | ⟨kvs,k,b,e,ey,eb,l⟩
  · subst ey
    obtain ⟨z,hd,vs,rel,dd⟩:=dk_rd I.hok e
    obtain ⟨w',hw,rw'⟩:=RelO.some_of (v:=v) (o:=valueAt vs k) (by rw [l]; exact rel.val k)
    exact wpAny_getItem_of (kV_is ry) dd.mapOf hw (h w' _ (I.tok _) rw')
  · subst ey
    cases (show u=Value.ref b from ry)
    obtain ⟨z,hd,xs,rel,dd⟩:=dt_rd I.hok e
    obtain ⟨w',hw,rw'⟩:=RelO.some_of (v:=v) (o:=(atKey xs k).map (·.2)) (by rw [l]; exact rel.val k)
    obtain ⟨p,hp,hp2⟩:=Option.map_eq_some_iff.mp hw
    refine wpAny_getItem_heap (tupleKind_room_in1 hu) (key_of I.hok eb) dd hp ?_
    rw [hp2]
    exact h w' _ (I.tok _) rw'
theorem d_notIn {Q:Value→Shared→Prop} (hu:A.units + 1 < cLine) (I:Inv X pins σ H s) (g:DGet H a y o) (ry:RelV y u) (h:∀ s',Inv X pins σ H s'→Q (.bool (!o.isSome)) s') :
    wpAny (model X.prog X.w) A (compareOp .NotIn u (.ref a)) Q E s:=by
  rcases g with ⟨kvs,k,e,ey,l⟩ | ⟨kvs,k,b,e,ey,eb,l⟩
  · subst ey
    obtain ⟨z,hd,vs,rel,dd⟩:=dk_rd I.hok e
    refine wpAny_notIn_of (kV_is ry) hd dd.mapOf ?_
    rw [← (rel.val k).isSome_eq,← l]
    exact h _ (I.tok _)
  · subst ey
    cases (show u=Value.ref b from ry)
    obtain ⟨z,hd,xs,rel,dd⟩:=dt_rd I.hok e
    refine wpAny_notIn_heap (tupleKind_room_in1 hu) (key_of I.hok eb) hd dd ?_
    have q:=(rel.val k).isSome_eq
    rw [Option.isSome_map] at q
    rw [← q,← l]
    exact h _ (I.tok _)
theorem d_write {h':Heap} {t':Nat} {ob:HO} (I:Inv X pins σ H s) (mu:Mut (H a)) (hs:Heap.SameBut a s.heap h') (he:∃ q,h'.get? a=some q) (new:ObjOk X.prog X.w (upd H a ob) h' a ob) :
    Inv X pins σ (upd H a ob) { s with heap:=h',toks:=t' }:=
  I.write (x:=a) (e:=a) mu (.inl rfl) (fun b q hb z=>(hs.2 b hb).trans z) he new
theorem dk_new {P:Program} {w:World} {H':Hp} {h':Heap} {kvs:List (Key × V)} {vs:List (Key × Value)} (z:kvs.length ≤ sizeLine) (hd:(a == sysModules)=false) (rel:KV kvs vs) (dd:h'.DictOf (mixKind P w) a vs) :
    ObjOk P w H' h' a (.dK kvs):=⟨z,hd,vs,rel,dd⟩
theorem d_setItem {H':Hp} {Q:Unit→Shared→Prop} (hu:A.units + 1 < cLine) (I:Inv X pins σ H s) (g:DPut H a y v H') (ry:RelV y u) (rv:RelV v r) (h:∀ s',Inv X pins σ H' s'→Q () s') :
    wpAny (model X.prog X.w) A (setItem (.ref a) u r) Q E s:=by
  rcases g with ⟨kvs,k,e,ey,l,eH⟩ | ⟨kvs,k,b,e,ey,eb,l,eH⟩
  · subst ey eH
    obtain ⟨z,hd,vs,rel,dd⟩:=dk_of I.hok e
    have hz:vs.length ≤ sizeLine:=by rw [← rel.length]; exact z
    have hl:(putK kvs k v).length ≤ sizeLine:=by have:=length_putK kvs k v; omega
    refine wpAny_setItem_pairs (hsz:=hz) (kV_is ry) dd fun h' dd' hs=>h _ ?_
    have he:∃ q,h'.get? a=some q:=let ⟨q,_,_,hq,_⟩:=dd'; ⟨q,hq⟩
    exact d_write I (by rw [e]; exact True.intro) hs he (dk_new hl hd (rel.put k rv) dd')
  · subst ey eH
    cases (show u=Value.ref b from ry)
    obtain ⟨z,hd,xs,rel,dd⟩:=dt_of I.hok e
    have hz:xs.length ≤ sizeLine:=by rw [← Paired.length rel]; exact z
    have hl:(putK kvs k v).length ≤ sizeLine:=by have:=length_putK kvs k v; omega
    refine wpAny_setItem_heap (hsz:=hz) (tupleKind_room_in1 hu) (key_of I.hok eb) dd fun h' dd' hs=>h _ ?_
    obtain ⟨q,es,ep,hq,h2,h3,h4,_,h5⟩:=dd'
    refine d_write I (by rw [e]; exact True.intro) hs ⟨q,hq⟩ ⟨hl,hd,_,(rel.put k eb rv).keeps fun c ys ec=>?_,q,es,ep,hq,h2,h3,h4,h5⟩
    rw [upd_ne (ne_of ec e (fun z=>nomatch z))]
    exact ec
end
section
variable {X:Cx} {pins:List (Addr × Obj)} {σ:St} {H:Hp} {s:Shared} {a:Addr} {kvs:List (Key × V)} {k:Key} {u:Value} {A:Around} {E:Value→Shared→Prop}
end
noncomputable def NoSl (i:Expr):Prop:=∀ ov iv,subscripted i false ov iv=operate [ov,iv] (getItem ov iv)
theorem subD_of {prog:Program} {w:World} {A:Around} {E:Value→Shared→Prop} {s:Shared} {env:Env} {value slice:Expr} {pos:Pos} {T id:String} {Q:Value→Shared→Prop}
    (hl:typeLookup (.type T) "__getitem__" = pure (some (.builtin id))) (hs:NoSl slice)
    (h:wpAny (model prog w) A (eval value env) (fun o s₁=>wpAny (model prog w) A (eval slice env) (fun i s₂=>s₂.TypeIs o T∧wpAny (model prog w) A (getItem o i) Q E s₂) E s₁) E s) :
    wpAny (model prog w) A (eval (.Subscript value slice pos) env) Q E s:=by
  refine Subscript_ (wpAny_mono h (fun o s₁ h₁=>wpAny_mono h₁ (fun i s₂ h₂=>?_) fun _ _ x=>x) fun _ _ x=>x)
  obtain ⟨hT,h₂⟩:=h₂
  unfold subscriptTail
  refine wpAny_bind ?_
  rw [getitemInPython_of_ne hT.not_modules]
  refine wpAny_bind (wpAny_specialOf hT hl ?_)
  have fin:wpAny (model prog w) A (subscripted slice false o i) (fun r s₃=>wpAny (model prog w) A (letTemporaryGo value o r >>= fun _=>pure r) Q E s₃) E s₂:=by
    rw [hs o i]
    exact wpAny_operating (wpAny_mono h₂ (fun r s₃ h₃=>wpAny_bind (wpAny_letTemporaryGo (wpAny_pure h₃))) fun _ _ x=>x)
  first
    | exact wpAny_pure (wpAny_bind fin)
    | exact wpAny_bind (wpAny_pure (wpAny_bind fin))
    | exact wpAny_bind fin
theorem dict_typeIs {X:Cx} {pins:List (Addr × Obj)} {σ:St} {H:Hp} {s:Shared} {a:Addr} {y:V} {o:Option V} (I:Inv X pins σ H s) (g:DGet H a y o):s.TypeIs (.ref a) "dict" := by
  rcases g with ⟨kvs,k,e,_,_⟩ | ⟨kvs,k,b,e,_,_,_⟩
  · obtain ⟨_,_,vs,_,dd⟩:=dk_rd I.hok e
    exact dd.typeIs
  · obtain ⟨_,_,xs,_,dd⟩:=dt_rd I.hok e
    exact dd.typeIs
noncomputable def tDGet (td ty:TE):TE:=fun σ H Q=>td σ H fun x H1=>ty σ H1 fun y H2=>∃ a v,x=.ref a∧DGet H2 a y (some v)∧Q v H2
noncomputable def tDNotIn (ty td:TE):TE:=fun σ H Q=>ty σ H fun y H1=>td σ H1 fun x H2=>∃ a o,x=.ref a∧DGet H2 a y o∧Q (.bl (!o.isSome)) H2
noncomputable def sDPut (td ty tv:TE):TS:=fun D σ H=>tv σ H fun v H1=>td σ H1 fun x H2=>ty σ H2 fun y H3=>∃ a H4,x=.ref a∧DPut H3 a y v H4∧D.nx σ H4
section
variable {X:Cx} {o i e value:Expr} {pos pos' tpos:Pos} {td ty tv:TE}
theorem pe_dget (hu:X.A.units + 1 < cLine) (ho:PE X o td) (hi:PE X i ty) (hs:NoSl i):PE X (.Subscript o i pos) (tDGet td ty):=by
  intro pins s σ H Q I h
  refine subD_of PySem.F.slot_dict_getitem.lookup hs (thn (ho pins s σ H _ I h) fun u s1 ⟨x,H1,I1,rx,q1⟩=>thn (hi pins s1 σ H1 _ I1 q1) fun iv s2 ⟨y,H2,I2,ry,a,v,ex,g,q2⟩=>?_)
  subst ex
  obtain rfl:u=Value.ref a:=rx
  exact ⟨dict_typeIs I2 g,d_getItem hu I2 g ry fun w' s3 I3 rw'=>⟨v,H2,I3,rw',q2⟩⟩
theorem pc_dnotin (hu:X.A.units + 1 < cLine) (hi:PE X i ty) (ho:PE X o td):PC X .NotIn i o (tDNotIn ty td):=by
  intro pins s σ H Q I h
  refine thn (hi pins s σ H _ I h) fun iv s1 ⟨y,H1,I1,ry,q1⟩=>thn (ho pins s1 σ H1 _ I1 q1) fun u s2 ⟨x,H2,I2,rx,a,ov,ex,g,q2⟩=>?_
  subst ex
  obtain rfl:u=Value.ref a:=rx
  exact d_notIn hu I2 g ry fun s3 I3=>⟨.bl (!ov.isSome),H2,I3,rfl,q2⟩
theorem ps_dput (hu:X.A.units + 1 < cLine) (ho:PE X o td) (hi:PE X i ty) (hv:PE X value tv) (hs:swapsWith value (some (.Subscript o i pos')) pos.line X.env=pure false) :
    PS X (.Assign [.Subscript o i pos'] value pos) (sDPut td ty tv):=by
  intro pins s σ H D I h
  refine wpAny_Assign_Subscript (thn (hv pins s σ H _ I h) fun r s1 ⟨v,H1,I1,rv,q1⟩=>thn (ho pins s1 σ H1 _ I1 q1) fun u s2 ⟨x,H2,I2,rx,q2⟩=>thn (hi pins s2 σ H2 _ I2 q2) fun iv s3 ⟨y,H3,I3,ry,a,H4,ex,g,q3⟩=>?_) hs
  subst ex
  obtain rfl:u=Value.ref a:=rx
  exact d_setItem hu I3 g ry rv fun s4 I4=>⟨σ,H4,I4,q3⟩
end
theorem dk_empty {P:Program} {w:World} {H:Hp} (h:Heap) (hb:sysModules < h.objs.size):ObjOk P w H (h.push { cls:=.type "dict",data:=.dict #[] }) h.objs.size (.dK []):=
  ⟨Nat.zero_le _,beq_eq_false_iff_ne.mpr (Ne.symm (Nat.ne_of_lt hb)),[],.nil,Heap.DictOf.new h⟩
noncomputable def tDNewK:TE:=fun _ H Q=>∀ p,H p=none→Q (.ref p) (upd H p (.dK []))
section
variable {X:Cx} {pos:Pos}
theorem pe_dnewK:PE X (.Dict [] [] pos) tDNewK:=fun pins s σ H Q I h=>
  wpAny_Dict_empty ⟨.ref s.heap.objs.size,_,I.laid (a:=s.heap.objs.size) (o:=.dK []) (t':=s.toks) (fun _ _ q=>Heap.get?_push_of_some _ q) (Nat.le_refl _) (dk_empty s.heap I.big),rfl,h _ (I.hok.fresh (Nat.le_refl _))⟩
end
end L2
set_option Elab.async false
set_option linter.all false
set_option maxRecDepth 100000
set_option maxHeartbeats 4000000
namespace PF
open PySem PySem.Spec PySem.W L2
open PyProof.Rows hiding St InstAt
noncomputable def lookD (k:Key):List Key→List D→Option D
  | k' :: ks,d :: l=>if k'=k then some d else lookD k ks l
  | _,_=>none
noncomputable def putL (k:Key) (d:D):List Key→List D→List D
  | k' :: ks,d' :: l=>(if k'=k then d else d') :: putL k d ks l
  | _,_=>[]
noncomputable def hasK (k:Key) (ks:List Key):Bool:=ks.any fun k'=>decide (k'=k)
noncomputable def putKs (k:Key) (ks:List Key):List Key:=if hasK k ks=true then ks else ks ++ [k]
noncomputable def putVs (k:Key) (d:D) (ks:List Key) (l:List D):List D:=if hasK k ks=true then putL k d ks l else l ++ [d]
noncomputable def keyD:D→Option Key
  | .int i=>some (.inl i)
  | .str x=>some (.inr x)
  | _=>none
section
variable {K:PySem.W.Frag} {F H:Hp}
theorem key_rv {d:D} {v:V} {k:Key} (r:RV K F H d v) (e:keyD d=some k):v=kV k:=by
  cases d <;> first | (simp [keyD] at e; done) | skip
  · have e':=Option.some.inj e
    subst e'; exact r
  · have e':=Option.some.inj e
    subst e'; exact r
theorem look_some {k:Key}:∀ {kvs:List (Key × V)} {l:List D} {d:D},RepL K F l (kvs.map (·.2))→lookD k (kvs.map (·.1)) l=some d→∃ v,valV kvs k=some v∧Rep K F d v
  | [],l,d,r,e=>by cases l <;> cases e
  | p :: kvs,[],d,r,e=>by cases e
  | p :: kvs,d' :: l,d,r,e=>by
    obtain ⟨v,t,h,q,r⟩:=r
    rw [List.map_cons] at h
    injection h with h1 h2
    subst h1 h2
    rw [List.map_cons,lookD] at e
    by_cases c:p.1=k
    · rw [if_pos c] at e
      have e':=Option.some.inj e
      subst e'
      exact ⟨p.2,valV_pos c,q⟩
    · rw [if_neg c] at e
      rw [valV_neg c]
      exact look_some r e
theorem look_none {k:Key}:∀ {kvs:List (Key × V)} {l:List D},RepL K F l (kvs.map (·.2))→lookD k (kvs.map (·.1)) l=none→valV kvs k=none
  | [],l,r,e=>rfl
  | p :: kvs,[],r,e=>by have h:_=[]:=r; simp at h
  | p :: kvs,d' :: l,r,e=>by
    obtain ⟨v,t,h,q,r⟩:=r
    rw [List.map_cons] at h
    injection h with h1 h2
    subst h1 h2
    rw [List.map_cons,lookD] at e
    by_cases c:p.1=k
    · rw [if_pos c] at e; cases e
    · rw [if_neg c] at e
      rw [valV_neg c]
      exact look_none r e
theorem put_any {k:Key} {kvs:List (Key × V)}:(kvs.any fun kv=>decide (kv.1=k))=hasK k (kvs.map (·.1)):=by
  unfold hasK
  rw [List.any_map]
  rfl
theorem put_keys {k:Key} {v:V} {kvs:List (Key × V)}:(putK kvs k v).map (·.1)=putKs k (kvs.map (·.1)):=by
  unfold putK putKs
  rw [put_any]
  by_cases c:hasK k (kvs.map (·.1))=true
  · rw [if_pos c,if_pos c,List.map_map]
    apply List.map_congr_left
    intro p _
    show (if p.1=k then (p.1,v) else p).1=p.1
    split <;> rfl
  · rw [if_neg c,if_neg c]; simp
theorem put_repl {k:Key} {d:D} {v:V} (q:Rep K F d v):∀ {kvs:List (Key × V)} {l:List D},RepL K F l (kvs.map (·.2))→RepL K F (putL k d (kvs.map (·.1)) l) ((kvs.map fun kv=>if kv.1=k then (kv.1,v) else kv).map (·.2))
  | [],l,r=>by cases l <;> rfl
  | p :: kvs,[],r=>by have h:_=[]:=r; simp at h
  | p :: kvs,d' :: l,r=>by
    obtain ⟨v',t,h,q',r⟩:=r
    rw [List.map_cons] at h
    injection h with h1 h2
    subst h1 h2
    refine ⟨(if p.1=k then (p.1,v) else p).2,_,rfl,?_,put_repl q r⟩
    by_cases c:p.1=k
    · simp only [if_pos c]; exact q
    · simp only [if_neg c]; exact q'
theorem put_vals {k:Key} {d:D} {v:V} {kvs:List (Key × V)} {l:List D} (q:Rep K F d v) (r:RepL K F l (kvs.map (·.2))):RepL K F (putVs k d (kvs.map (·.1)) l) ((putK kvs k v).map (·.2)):=by
  unfold putK putVs
  rw [put_any]
  by_cases c:hasK k (kvs.map (·.1))=true
  · rw [if_pos c,if_pos c]
    exact put_repl q r
  · rw [if_neg c,if_neg c,List.map_append]
    exact r.append (.one q)
end
section
variable {X:Cx} {F0 H0:Hp} {xq:Addr→Hp→Prop} {a b e o i:Expr} {fa fb:DS→M VR} {pos p2:Pos}
noncomputable def opGet (dd y:D):Option D:=match dd with
  | .dic ks l=>(match keyD y with
    | some k=>lookD k ks l
    | none=>none)
  | _=>none
noncomputable def rDGet:R2:=fun x y H Q=>∃ a v,x=.ref a∧DGet H a y (some v)∧Q v H
theorem opGet_ok:OpD X.K rDGet opGet:=fun F H d1 d2 d v1 v2 Q fh r1 r2 e q=>by
  cases d1 <;> first | (simp [opGet] at e; done) | skip
  rename_i ks l
  obtain ⟨a,kvs,rfl,h,hk,r⟩:=r1
  subst hk
  have e2:(match keyD d2 with | some k=>lookD k (kvs.map (·.1)) l | none=>none)=some d:=e
  cases z:keyD d2 with
  | none=>rw [z] at e2; cases e2
  | some k=>
    rw [z] at e2
    have hv:=key_rv r2 z
    subst hv
    obtain ⟨v,e3,rp⟩:=look_some r e2
    exact ⟨a,v,rfl,by rw [← e3]; exact DGet.k h,q v F H (Ext.refl fh) rp⟩
theorem de_dget (hu:X.A.units + 64 < cLine) (ha:DE X F0 H0 xq a fa) (hb:DE X F0 H0 xq b fb) (hs:NoSl b:=by intro _ _; rfl):DE X F0 H0 xq (.Subscript a b pos) (dBin opGet fa fb):=
  .mk fun pins s σ H Q I h=>pe_dget (by (clear h I hs hb ha; omega)) ha.h hb.h hs pins s σ H Q I (tOp_of opGet_ok h)
noncomputable def cDNotIn (y dd:D):Option D:=match dd with
  | .dic ks l=>(match keyD y with
    | some k=>some (.bl (!(lookD k ks l).isSome))
    | none=>none)
  | _=>none
noncomputable def rDNotIn:R2:=fun y x H Q=>∃ a o,x=.ref a∧DGet H a y o∧Q (.bl (!o.isSome)) H
theorem look_isSome {K:PySem.W.Frag} {F:Hp} {k:Key} {kvs:List (Key × V)} {l:List D} (r:RepL K F l (kvs.map (·.2))):(valV kvs k).isSome=(lookD k (kvs.map (·.1)) l).isSome:=by
  cases z:lookD k (kvs.map (·.1)) l with
  | none=>rw [look_none r z]; rfl
  | some d=>
    obtain ⟨v,e,_⟩:=look_some r z
    rw [e]; rfl
theorem cDNotIn_ok:OpD X.K rDNotIn cDNotIn:=fun F H d1 d2 d v1 v2 Q fh r1 r2 e q=>by
  cases d2 <;> first | (simp [cDNotIn] at e; done) | skip
  rename_i ks l
  obtain ⟨a,kvs,rfl,h,hk,r⟩:=r2
  subst hk
  have e2:(match keyD d1 with | some k=>some (D.bl (!(lookD k (kvs.map (·.1)) l).isSome)) | none=>none)=some d:=e
  cases z:keyD d1 with
  | none=>rw [z] at e2; cases e2
  | some k=>
    rw [z] at e2
    have hv:=key_rv r1 z
    subst hv
    have e':=Option.some.inj e2
    subst e'
    refine ⟨a,_,rfl,DGet.k h,?_⟩
    rw [look_isSome r]
    exact q _ F H (Ext.refl fh) rfl
theorem dt_dnotin (hu:X.A.units + 64 < cLine) (ha:DE X F0 H0 xq a fa) (hb:DE X F0 H0 xq b fb) (hm:behindInMarks .NotIn b=false:=by rfl):DT X F0 H0 xq (.Compare a [.NotIn] [b] pos) (dtB (dBin cDNotIn fa fb)):=
  .mk fun pins s σ H Q I h=>pt_cmp (pc_dnotin (by (clear h I hm hb ha; omega)) ha.h hb.h) hm pins s σ H Q I (tOp_of cDNotIn_ok (tTest_of h))
noncomputable def dOwd (i:Nat):DS→Option Fl:=fun S=>some (.next (S.set i (some (.owd [] []))))
theorem ds_owd (i:Nat) {x:Str} {pos' dpos:Pos} (hN:X.N.Nodup) (hi:X.N[i]?=some x:=by rfl) (hx:Loc X.env.scope x:=by first | exact Or.inl rfl | exact Or.inr rfl) (hs:swapsWith (.Dict [] [] dpos) (some (.Name x pos')) pos.line X.env=pure false:=by rfl)
    (hf:X.fn x=true∨X.env.scope.names.lookup x=some .local:=by first | exact .inl rfl | exact .inr rfl | assumption):DS1 X F0 H0 xq (.Assign [.Name x pos'] (.Dict [] [] dpos) pos) (dOwd i):=.mk fun pins s σ H Dn I q=>by
  refine ps_set hN hi hx pe_dnewK hs hf pins s σ H Dn I ?_
  obtain ⟨F,S,sk,o⟩:=q
  intro p hp
  exact o _ F _ (sk.setOwd (ext_own sk.ext.fh hp) hp (sk.ext.fh.free hp) upd_same rfl RepL.nil i)
noncomputable def dDPut (i:Nat) (g f:DS→M VR):DS→Option Fl:=fun S=>match S[i]? with
  | some (some (.owd ks l))=>liftE (f S) fun r=>match r with
    | .ok d=>liftE (g S) fun r2=>match keyD (toD r2) with
      | some k=>if ks.length < big then some (.next (S.set i (some (.owd (putKs k ks) (putVs k d ks l))))) else none
      | none=>none
    | _=>none
  | _=>none
theorem ds_dput (i:Nat) {x:Str} {p p2:Pos} {ix:Expr} {f g:DS→M VR} (hu:X.A.units + 64 < cLine) (hix:DE X F0 H0 xq ix g) (he:DE X F0 H0 xq e f) (hN:X.N[i]?=some x:=by rfl) (hv:Vis X.env.scope x:=by first | exact Or.inl rfl | exact Or.inr (Or.inl rfl) | exact Or.inr (Or.inr rfl))
    (hd:(x == ("__debug__" : Str))=false:=by decide) (hcd:(x == ("__classdict__" : Str))=false:=by decide) (hs:swapsWith e (some (.Subscript (.Name x p) ix p2)) pos.line X.env=pure false:=by rfl) :
    DS1 X F0 H0 xq (.Assign [.Subscript (.Name x p) ix p2] e pos) (dDPut i g f):=.mk fun pins s σ H Dn I q=>by
  refine ps_dput (by (clear q I hs hcd hd hv hN he hix; omega)) (pe_var hN hv hd hcd) hix.h he.h hs pins s σ H Dn I ?_
  obtain ⟨F,S,sk,o⟩:=q
  unfold dDPut at o
  cases z:S[i]? with
  | none=>rw [z] at o; exact False.elim o
  | some z1=>
    cases z1 with
    | none=>rw [z] at o; exact False.elim o
    | some sl=>
      cases sl with
      | val d=>rw [z] at o; exact False.elim o
      | own l=>rw [z] at o; exact False.elim o
      | owd ks l=>
        rw [z] at o
        refine ⟨F,S,sk,outE_of sk o fun r v F1 H1 e1 q1 o1=>?_⟩
        cases r with
        | bor l=>exact False.elim o1
        | bod ks l=>exact False.elim o1
        | ok d=>
          have sk1:=sk.step e1
          obtain ⟨a,kvs,h1,h2,h3,h4,h5,h6⟩:=sk1.owd i ks l z
          refine ⟨.ref a,h1,F1,S,sk1,outE_of sk1 o1 fun r2 v2 F2 H2 e2 q2 o2=>?_⟩
          have sk2:=sk1.step e2
          have rv:=RR.rv e2.fh q2
          generalize toD r2=d2 at rv o2
          cases zk:keyD d2 with
          | none=>rw [zk] at o2; exact False.elim o2
          | some k=>
            rw [zk] at o2
            have o3:outS X.K F0 H0 xq Dn (if ks.length < big then some (.next (S.set i (some (.owd (putKs k ks) (putVs k d ks l))))) else none):=o2
            have hv2:=key_rv rv zk
            subst hv2
            by_cases hz:ks.length < big
            · rw [if_pos hz] at o3
              obtain ⟨a',kvs',g1,g2,g3,g4,g5,g6⟩:=sk2.owd i ks l z
              have ea:a'=a:=by rw [h1] at g1; simpa using g1.symm
              subst ea
              have hl:kvs'.length < sizeLine:=by
                have:kvs'.length=ks.length:=by rw [← g5,List.length_map]
                rw [this]
                exact Nat.lt_of_lt_of_le hz (big_le (Nat.le_refl _))
              refine ⟨a',_,rfl,DPut.k g4 hl,?_⟩
              subst g5
              exact o3 σ F2 _ (sk2.mutd z g1 put_keys (put_vals (Rep.mono e2.ff q1) g6))
            · rw [if_neg hz] at o3; exact False.elim o3
end
end PF
set_option Elab.async false
set_option linter.all false
set_option maxRecDepth 100000
set_option maxHeartbeats 4000000
namespace PF
open PySem PySem.Spec PySem.W L2
open PyProof.Rows hiding St InstAt
section
variable {prog:Program} {w:World} {A:Around} {E:Value→Shared→Prop} {s:Shared}
end
section
variable {X:Cx} {F0 H0:Hp} {xq:Addr→Hp→Prop} {a b:Expr} {fa fb:DS→M VR} {pos p2:Pos}
end
end PF
set_option Elab.async false
set_option linter.all false
set_option maxRecDepth 100000
set_option maxHeartbeats 4000000
namespace PF
open PySem PySem.Spec PySem.W L2
open PyProof.Rows hiding St InstAt
section
variable {X:Cx}
variable {F0 H0:Hp} {xq:Addr→Hp→Prop} {a:Expr} {fa:DS→M VR} {pos p p2 kp:Pos}
end
end PF
set_option Elab.async false
set_option linter.all false
set_option maxRecDepth 100000
set_option maxHeartbeats 4000000
namespace PF
open PySem L2
section
variable {α β:Type} {S:DS} {f g h fa fb fc:DS→M VR}
@[simp] theorem mb_ok (a:α) (k:α→M β):mb (some (.ok a)) k=k a:=rfl
@[simp] theorem mb_none (k:α→M β):mb none k=none:=rfl
@[simp] theorem mb_err (c:Addr) (k:α→M β):mb (some (.error c)) k=some (.error c):=rfl
@[simp] theorem dVar_e (i:Nat):dVar i S=match S[i]? with
  | some (some (.val d))=>some (.ok (.ok d))
  | some (some (.own l))=>some (.ok (.bor l))
  | some (some (.owd ks l))=>some (.ok (.bod ks l))
  | _=>none:=rfl
@[simp] theorem dC_e (d:D):dC d S=some (.ok (.ok d)):=rfl
@[simp] theorem dOf_e (f:DS→M (List D)):dOf f S=mb (f S) fun l=>some (.ok (.ok (.lst l))):=rfl
@[simp] theorem vr_some (d:D):vr (some d)=some (.ok (.ok d)):=rfl
@[simp] theorem vr_none:vr none=none:=rfl
@[simp] theorem toD_ok (d:D):toD (.ok d)=d:=rfl
@[simp] theorem toD_bod (ks:List Key) (l:List D):toD (.bod ks l)=.dic ks l:=rfl
@[simp] theorem toD_bor (l:List D):toD (.bor l)=.lst l:=rfl
@[simp] theorem dBin_e (k:D→D→Option D):dBin k fa fb S=mb (fa S) fun r1=>mb (fb S) fun r2=>vr (k (toD r1) (toD r2)):=rfl
@[simp] theorem dUn_e (k:D→Option D):dUn k fa S=mb (fa S) fun r1=>vr (k (toD r1)):=rfl
@[simp] theorem dtB_e:dtB f S=mb (f S) fun r=>match r with
  | .ok (.bl b)=>some (.ok b)
  | _=>none:=rfl
@[simp] theorem dChain_e (k k':D→D→Option D):dChain k k' fa fb fc S=mb (fa S) fun r1=>mb (fb S) fun r2=>match k (toD r1) (toD r2) with
  | some (.bl true)=>mb (fc S) fun r3=>vr (k' (toD r2) (toD r3))
  | some (.bl false)=>some (.ok (.ok (.bl false)))
  | _=>none:=rfl
@[simp] theorem dNot_e (t:DS→M Bool):dNot t S=mb (t S) fun b=>some (.ok (!b)):=rfl
@[simp] theorem dNotV_e:dNotV f S=mb (f S) fun r=>match r with
  | .ok (.bl b)=>some (.ok (.ok (.bl (!b))))
  | _=>none:=rfl
@[simp] theorem dAnd_e (t u:DS→M Bool):dAnd t u S=mb (t S) fun b=>if b=true then u S else some (.ok false):=rfl
@[simp] theorem dOr_e (t u:DS→M Bool):dOr t u S=mb (t S) fun b=>if b=true then some (.ok true) else u S:=rfl
@[simp] theorem dAndV_e:dAndV f g S=mb (f S) fun r=>match r with
  | .ok (.bl true)=>g S
  | .ok (.bl false)=>some (.ok (.ok (.bl false)))
  | _=>none:=rfl
@[simp] theorem dOrV_e:dOrV f g S=mb (f S) fun r=>match r with
  | .ok (.bl true)=>some (.ok (.ok (.bl true)))
  | .ok (.bl false)=>g S
  | _=>none:=rfl
@[simp] theorem dIfE_e (c:DS→M Bool):dIfE c f g S=mb (c S) fun b=>if b=true then f S else g S:=rfl
@[simp] theorem dNil_e:dNil S=some (.ok []):=rfl
@[simp] theorem dCons_e (fs:DS→M (List VR)):dCons f fs S=mb (f S) fun r=>mb (fs S) fun rs=>some (.ok (r :: rs)):=rfl
@[simp] theorem datas_nil:datas []=some []:=rfl
@[simp] theorem datas_ok (d:D) (r:List VR):datas (.ok d :: r)=(datas r).map (d :: ·):=rfl
@[simp] theorem dTup_e (fs:DS→M (List VR)):dTup fs S=mb (fs S) fun rs=>match datas rs with
  | some ds=>if ds.length ≤ 100000 then some (.ok (.ok (.tup ds))) else none
  | none=>none:=rfl
@[simp] theorem dLst_e (fs:DS→M (List VR)):dLst fs S=mb (fs S) fun rs=>match datas rs with
  | some ds=>if ds.length ≤ 100000 then some (.ok ds) else none
  | none=>none:=rfl
@[simp] theorem isBor_ok (d:D):isBor (.ok d)=false:=rfl
@[simp] theorem isBor_bod (ks:List Key) (l:List D):isBor (.bod ks l)=true:=rfl
@[simp] theorem isBor_bor (l:List D):isBor (.bor l)=true:=rfl
@[simp] theorem dCall_e (n:Nat) (m:List D→M D) (fs:DS→M (List VR)):dCall n m fs S=mb (fs S) fun rs=>if rs.length=n then mb (m (rs.map toD)) fun d=>if rs.any isBor=true∧noList d=false then none else some (.ok (.ok d)) else none:=rfl
@[simp] theorem dNext_e:dNext S=some (.next S):=rfl
@[simp] theorem dSeq_e (p q:DS→Option Fl):dSeq p q S=match p S with
  | some (.next S')=>q S'
  | x=>x:=rfl
@[simp] theorem liftE_none (k:VR→Option Fl):liftE none k=none:=rfl
@[simp] theorem liftE_err (c:Addr) (k:VR→Option Fl):liftE (some (.error c)) k=some (.ex c):=rfl
@[simp] theorem liftE_ok (r:VR) (k:VR→Option Fl):liftE (some (.ok r)) k=k r:=rfl
@[simp] theorem dSet_e (i:Nat):dSet i f S=liftE (f S) fun r=>match r with
  | .ok d=>some (.next (S.set i (some (.val d))))
  | _=>none:=rfl
@[simp] theorem dOwn_e (i:Nat) (f:DS→M (List D)):dOwn i f S=match f S with
  | none=>none
  | some (.error c)=>some (.ex c)
  | some (.ok l)=>some (.next (S.set i (some (.own l)))):=rfl
@[simp] theorem dIf_e (c:DS→M Bool) (p q:DS→Option Fl):dIf c p q S=match c S with
  | none=>none
  | some (.error c)=>some (.ex c)
  | some (.ok b)=>if b=true then p S else q S:=rfl
@[simp] theorem dRet_e:dRet f S=liftE (f S) fun r=>some (.ret (toD r)):=rfl
@[simp] theorem dAppend_e (i:Nat):dAppend i f S=match S[i]? with
  | some (some (.own l))=>liftE (f S) fun r=>match r with
    | .ok d=>if l.length < 100000 then some (.next (S.set i (some (.own (l ++ [d]))))) else none
    | _=>none
  | _=>none:=rfl
@[simp] theorem dStore_e (i:Nat):dStore i g f S=match S[i]? with
  | some (some (.own l))=>liftE (f S) fun r=>match r with
    | .ok d=>liftE (g S) fun r2=>match r2 with
      | .ok (.int k)=>match ixN l.length k with
        | some j=>some (.next (S.set i (some (.own (l.set j d)))))
        | none=>none
      | _=>none
    | _=>none
  | _=>none:=rfl
@[simp] theorem sName_e (i:Nat) (d:D):sName i d S=some (S.set i (some (.val d))):=rfl
@[simp] theorem sNil_e:sNil [] S=some S:=rfl
@[simp] theorem sCons_e (s:D→DS→Option DS) (r:List D→DS→Option DS) (d:D) (ds:List D):sCons s r (d :: ds) S=match s d S with
    | none=>none
    | some S'=>r ds S':=rfl
@[simp] theorem sTup_e (n:Nat) (s:List D→DS→Option DS) (l:List D):sTup n s (.tup l) S=if l.length=n then s l S else none:=rfl
@[simp] theorem items_tup (l:List D):items (.ok (.tup l))=some l:=rfl
@[simp] theorem items_lst (l:List D):items (.ok (.lst l))=some l:=rfl
@[simp] theorem items_scr (l:List Int):items (.ok (.scr l))=some (l.map .int):=rfl
@[simp] theorem dIter_e:dIter f S=mb (f S) fun r=>match items r with
  | some l=>some (.ok l)
  | none=>none:=rfl
@[simp] theorem dRange1_e (fs:DS→M (List VR)):dRange1 fs S=mb (fs S) fun rs=>match rs with
  | [.ok (.int j)]=>if rOk j=true then some (.ok (rangeD 0 j)) else none
  | _=>none:=rfl
@[simp] theorem dRange2_e (fs:DS→M (List VR)):dRange2 fs S=mb (fs S) fun rs=>match rs with
  | [.ok (.int i),.ok (.int j)]=>if rOk i=true∧rOk j=true then some (.ok (rangeD i j)) else none
  | _=>none:=rfl
@[simp] theorem rOk_e (j:Int):rOk j=true↔-1000000000 ≤ j∧j ≤ 1000000000:=by simp [rOk]
@[simp] theorem dFor_e (k:DS→M (List D)) (set:D→DS→Option DS) (p:DS→Option Fl):dFor k set p S=match k S with
  | none=>none
  | some (.error c)=>some (.ex c)
  | some (.ok ds)=>loopD set p ds S:=rfl
@[simp] theorem startN_1 (n:Nat) (a:D):startN n [a]=some (.val a) :: List.replicate (n - 1) none:=rfl
@[simp] theorem startN_2 (n:Nat) (a b:D):startN n [a,b]=some (.val a) :: some (.val b) :: List.replicate (n - 2) none:=rfl
@[simp] theorem startN_3 (n:Nat) (a b c:D):startN n [a,b,c]=some (.val a) :: some (.val b) :: some (.val c) :: List.replicate (n - 3) none:=rfl
@[simp] theorem startN_4 (n:Nat) (a b c d:D):startN n [a,b,c,d]=some (.val a) :: some (.val b) :: some (.val c) :: some (.val d) :: List.replicate (n - 4) none:=rfl
@[simp] theorem startN_5 (n:Nat) (a b c d e:D):startN n [a,b,c,d,e]=some (.val a) :: some (.val b) :: some (.val c) :: some (.val d) :: some (.val e) :: List.replicate (n - 5) none:=rfl
@[simp] theorem rep_0:List.replicate 0 (none:Option Slot)=[]:=rfl
@[simp] theorem rep_1:List.replicate 1 (none:Option Slot)=[none]:=rfl
@[simp] theorem rep_2:List.replicate 2 (none:Option Slot)=[none,none]:=rfl
@[simp] theorem rep_3:List.replicate 3 (none:Option Slot)=[none,none,none]:=rfl
@[simp] theorem rep_4:List.replicate 4 (none:Option Slot)=[none,none,none,none]:=rfl
@[simp] theorem rep_5:List.replicate 5 (none:Option Slot)=[none,none,none,none,none]:=rfl
@[simp] theorem rep_6:List.replicate 6 (none:Option Slot)=[none,none,none,none,none,none]:=rfl
@[simp] theorem rep_7:List.replicate 7 (none:Option Slot)=[none,none,none,none,none,none,none]:=rfl
@[simp] theorem rep_8:List.replicate 8 (none:Option Slot)=[none,none,none,none,none,none,none,none]:=rfl
@[simp] theorem rep_9:List.replicate 9 (none:Option Slot)=[none,none,none,none,none,none,none,none,none]:=rfl
@[simp] theorem rep_10:List.replicate 10 (none:Option Slot)=[none,none,none,none,none,none,none,none,none,none]:=rfl
@[simp] theorem rep_11:List.replicate 11 (none:Option Slot)=[none,none,none,none,none,none,none,none,none,none,none]:=rfl
@[simp] theorem rep_12:List.replicate 12 (none:Option Slot)=[none,none,none,none,none,none,none,none,none,none,none,none]:=rfl
@[simp] theorem fin_next (S:DS):fin (some (.next S))=some (.ok .non):=rfl
@[simp] theorem fin_ret (d:D):fin (some (.ret d))=some (.ok d):=rfl
@[simp] theorem okM_ok (d:D):okM (some (.ok d))=some (.ok d):=rfl
@[simp] theorem cap_e (nt:Nat) (caps:List Nat):cap nt caps S=List.replicate nt none ++ caps.map fun j=>(S[j]?).join:=rfl
@[simp] theorem dComp_e (nt:Nat) (caps:List Nat) (fi:DS→M (List D)) (set:D→DS→Option DS) (t:DS→M Bool):dComp nt caps fi set t f S=mb (fi S) fun ds=>if ds.length ≤ 100000 then (match compD set t f ds (cap nt caps S) with
  | some l=>some (.ok l)
  | none=>none) else none:=rfl
@[simp] theorem opI2_e (k:Int→Int→Int) (i j:Int):opI2 k (.int i) (.int j)=some (.int (k i j)):=rfl
@[simp] theorem opC2_e (c:Int→Int→Bool) (k:Int→Int→Int) (i j:Int):opC2 c k (.int i) (.int j)=if c i j=true then some (.int (k i j)) else none:=rfl
@[simp] theorem okMod_e (i j:Int):okMod i j=true↔0 < j:=by simp [okMod]
@[simp] theorem okDiv_e (i j:Int):okDiv i j=true↔0 < j∧j < 1073741824:=by simp [okDiv]
@[simp] theorem opAdd_int (i j:Int):opAdd (.int i) (.int j)=some (.int (i + j)):=rfl
@[simp] theorem opAdd_str (i j:Str):opAdd (.str i) (.str j)=if i.length + j.length ≤ 100000 then some (.str (i ++ j)) else none:=rfl
@[simp] theorem opAdd_tup (l l':List D):opAdd (.tup l) (.tup l')=if l.length + l'.length ≤ 100000 then some (.tup (l ++ l')) else none:=rfl
@[simp] theorem opAdd_lst (l l':List D):opAdd (.lst l) (.lst l')=if l.length + l'.length ≤ 100000 then some (.lst (l ++ l')) else none:=rfl
@[simp] theorem opMul_int (i j:Int):opMul (.int i) (.int j)=if okMul i j=true then some (.int (i * j)) else none:=rfl
@[simp] theorem opMul_tup (l:List D) (k:Int):opMul (.tup l) (.int k)=if okRep l.length k=true then some (.tup (List.replicate k.toNat l).flatten) else none:=rfl
@[simp] theorem opMul_lst (l:List D) (k:Int):opMul (.lst l) (.int k)=if okRep l.length k=true then some (.lst (List.replicate k.toNat l).flatten) else none:=rfl
theorem okMul_l {i j:Int} (h1:-18446744073709551616 < i) (h2:i < 18446744073709551616):okMul i j=true:=by simp [okMul,h1,h2]
theorem okMul_r {i j:Int} (h1:-18446744073709551616 < j) (h2:j < 18446744073709551616):okMul i j=true:=by simp [okMul,h1,h2]
@[simp] theorem uNeg_e (i:Int):uNeg (.int i)=some (.int (-i)):=rfl
@[simp] theorem uLen_tup (l:List D):uLen (.tup l)=some (.int l.length):=rfl
@[simp] theorem uLen_lst (l:List D):uLen (.lst l)=some (.int l.length):=rfl
@[simp] theorem uLen_scr (l:List Int):uLen (.scr l)=some (.int l.length):=rfl
@[simp] theorem uLen_str (x:Str):uLen (.str x)=if x.length ≤ 100000 then some (.int x.length) else none:=rfl
@[simp] theorem uInt_int (i:Int):uInt (.int i)=some (.int i):=rfl
@[simp] theorem uInt_bl (b:Bool):uInt (.bl b)=some (.int (if b then 1 else 0)):=rfl
@[simp] theorem uStr_e (i:Int):uStr (.int i)=if (decide (-1000000000000 ≤ i) && decide (i ≤ 1000000000000))=true then some (.str (toString i)) else none:=rfl
@[simp] theorem uTup_tup (l:List D):uTup (.tup l)=some (.tup l):=rfl
@[simp] theorem uTup_lst (l:List D):uTup (.lst l)=some (.tup l):=rfl
noncomputable def asL:D→M (List D)
  | .tup l=>some (.ok l)
  | .lst l=>some (.ok l)
  | .scr l=>some (.ok (l.map .int))
  | _=>none
@[simp] theorem dList1_e:dList1 f S=mb (f S) fun r=>asL (toD r):=rfl
@[simp] theorem asL_tup (l:List D):asL (.tup l)=some (.ok l):=rfl
@[simp] theorem asL_lst (l:List D):asL (.lst l)=some (.ok l):=rfl
@[simp] theorem asL_scr (l:List Int):asL (.scr l)=some (.ok (l.map .int)):=rfl
@[simp] theorem uIsiT_e (T:String) (d:D):uIsiT T d=some (.bl (isiB (tyN d) T)):=rfl
@[simp] theorem isi_bb:isiB "bool" "bool" = true:=by decide
@[simp] theorem isi_bi:isiB "bool" "int" = true:=by decide
@[simp] theorem isi_bt:isiB "bool" "tuple" = false:=by decide
@[simp] theorem isi_ib:isiB "int" "bool" = false:=by decide
@[simp] theorem isi_ii:isiB "int" "int" = true:=by decide
@[simp] theorem isi_it:isiB "int" "tuple" = false:=by decide
@[simp] theorem isi_tb:isiB "tuple" "bool" = false:=by decide
@[simp] theorem isi_ti:isiB "tuple" "int" = false:=by decide
@[simp] theorem isi_tt:isiB "tuple" "tuple" = true:=by decide
@[simp] theorem isi_lb:isiB "list" "bool" = false:=by decide
@[simp] theorem isi_li:isiB "list" "int" = false:=by decide
@[simp] theorem isi_lt:isiB "list" "tuple" = false:=by decide
@[simp] theorem isi_sb:isiB "str" "bool" = false:=by decide
@[simp] theorem isi_si:isiB "str" "int" = false:=by decide
@[simp] theorem isi_st:isiB "str" "tuple" = false:=by decide
@[simp] theorem isi_ss:isiB "str" "str" = true:=by decide
@[simp] theorem isi_nb:isiB "NoneType" "bool" = false:=by decide
@[simp] theorem isi_ni:isiB "NoneType" "int" = false:=by decide
@[simp] theorem isi_nt:isiB "NoneType" "tuple" = false:=by decide
@[simp] theorem tyN_non:tyN .non = "NoneType" := rfl
@[simp] theorem tyN_bl (b:Bool):tyN (.bl b) = "bool" := rfl
@[simp] theorem tyN_int (i:Int):tyN (.int i) = "int" := rfl
@[simp] theorem tyN_str (x:Str):tyN (.str x) = "str" := rfl
@[simp] theorem tyN_tup (l:List D):tyN (.tup l) = "tuple" := rfl
@[simp] theorem tyN_lst (l:List D):tyN (.lst l) = "list" := rfl
@[simp] theorem tyN_dic (ks:List Key) (l:List D):tyN (.dic ks l) = "dict" := rfl
@[simp] theorem isi_db:isiB "dict" "bool" = false:=by decide
@[simp] theorem isi_di:isiB "dict" "int" = false:=by decide
@[simp] theorem isi_dt:isiB "dict" "tuple" = false:=by decide
@[simp] theorem tyN_scr (l:List Int):tyN (.scr l) = "list" := rfl
@[simp] theorem cLt_e (i j:Int):cLt (.int i) (.int j)=some (.bl (decide (i < j))):=rfl
@[simp] theorem cLe_e (i j:Int):cLe (.int i) (.int j)=some (.bl (decide (i ≤ j))):=rfl
@[simp] theorem cGt_e (i j:Int):cGt (.int i) (.int j)=some (.bl (decide (i > j))):=rfl
@[simp] theorem cGe_e (i j:Int):cGe (.int i) (.int j)=some (.bl (decide (i ≥ j))):=rfl
@[simp] theorem cEq_int (i j:Int):cEq (.int i) (.int j)=some (.bl (decide (i=j))):=rfl
@[simp] theorem cNe_int (i j:Int):cNe (.int i) (.int j)=some (.bl (!(decide (i=j)))):=rfl
@[simp] theorem cEq_bl (i j:Bool):cEq (.bl i) (.bl j)=some (.bl (i == j)):=rfl
@[simp] theorem cNe_bl (i j:Bool):cNe (.bl i) (.bl j)=some (.bl (!(i == j))):=rfl
@[simp] theorem opIx_tup (l:List D) (i:Int):opIx (.tup l) (.int i)=atI l i:=rfl
@[simp] theorem opIx_lst (l:List D) (i:Int):opIx (.lst l) (.int i)=atI l i:=rfl
@[simp] theorem opIx_scr (l:List Int) (i:Int):opIx (.scr l) (.int i)=(atI l i).map .int:=rfl
@[simp] theorem dBinF_e (k:D→D→Option D):dBinF k fa fb S=mb (fa S) fun r1=>mb (fb S) fun r2=>match k (toD r1) (toD r2) with
  | some (.lst l)=>some (.ok l)
  | _=>none:=rfl
@[simp] theorem dNoPart_e:dNoPart S=some (.ok none):=rfl
@[simp] theorem dPart_e:dPart f S=mb (f S) fun r=>match r with
  | .ok (.int i)=>some (.ok (some i))
  | _=>none:=rfl
@[simp] theorem dSlice_e (fl fh:DS→M (Option Int)):dSlice f fl fh S=mb (f S) fun r=>mb (fl S) fun lo=>mb (fh S) fun hi=>vr (sliceD (toD r) lo hi):=rfl
@[simp] theorem sliceD_tup (l:List D) (lo hi:Option Int):sliceD (.tup l) lo hi=some (.tup (cutD l lo hi)):=rfl
@[simp] theorem sliceD_lst (l:List D) (lo hi:Option Int):sliceD (.lst l) lo hi=some (.lst (cutD l lo hi)):=rfl
@[simp] theorem uRev_e (l:List D):uRev (.tup l)=some (.tup l.reverse):=rfl
@[simp] theorem noList_tup (l:List D):noList (.tup l)=noLists l:=by rw [noList]
@[simp] theorem noList_int (i:Int):noList (.int i)=true:=by rw [noList]
@[simp] theorem noList_bl (b:Bool):noList (.bl b)=true:=by rw [noList]
@[simp] theorem noList_non:noList .non=true:=by rw [noList]
@[simp] theorem noList_str (x:Str):noList (.str x)=true:=by rw [noList]
@[simp] theorem noLists_nil:noLists []=true:=by rw [noLists]
@[simp] theorem noLists_cons (d:D) (l:List D):noLists (d :: l)=(noList d && noLists l):=by rw [noLists]
@[simp] theorem noLists_ints (l:List Int):noLists (l.map D.int)=true:=by induction l with
  | nil=>simp
  | cons a l ih=>simp [ih]
@[simp] theorem bools_nil:bools []=some []:=rfl
@[simp] theorem bools_cons (b:Bool) (l:List D):bools (.bl b :: l)=(bools l).map (b :: ·):=rfl
@[simp] theorem bools_map {γ:Type} (p:γ→Bool) (l:List γ):bools (l.map fun x=>D.bl (p x))=some (l.map p):=by induction l with
  | nil=>rfl
  | cons a l ih=>simp [ih]
@[simp] theorem uAll_lst (l:List D):uAll (.lst l)=(bools l).map fun bs=>.bl (bs.all id):=rfl
end
theorem atI_nat' {α:Type} {l:List α} {i:Int} (h0:0 ≤ i):atI l i=l[i.toNat]?:=by
  unfold atI ixN
  rw [if_pos h0]
  by_cases h:i < (l.length:Int)
  · rw [if_pos h]; rfl
  · rw [if_neg h,List.getElem?_eq_none (by omega)]; rfl
theorem atI_neg {α:Type} {l:List α} {i:Int} (h0:i < 0) (h:-(l.length:Int) ≤ i):atI l i=l[(i + l.length).toNat]?:=by
  unfold atI ixN
  rw [if_neg (by omega),if_pos h]; rfl
theorem atI_last {α:Type} (l:List α):atI l (-1)=l.getLast?:=by
  cases l with
  | nil=>rfl
  | cons a r=>
    rw [atI_neg (by omega) (by simp; omega),List.getLast?_eq_getElem?]
    congr 1
    simp; omega
theorem compD_filter {set:D→DS→Option DS} {t:DS→M Bool} {fe:DS→M VR} {γ:Type} (f:γ→D) (k:γ→D) (p:γ→Bool) (st:Option Slot→DS) (l:List γ) (o:Option Slot)
    (h1:∀ a o,a ∈ l→set (f a) (st o)=some (st (some (.val (f a))))) (h2:∀ a,a ∈ l→t (st (some (.val (f a))))=some (.ok (p a))) (h3:∀ a,a ∈ l→fe (st (some (.val (f a))))=some (.ok (.ok (k a)))) :
    compD set t fe (l.map f) (st o)=some ((l.filter p).map k):=by
  induction l generalizing o with
  | nil=>rfl
  | cons a l ih=>
    rw [List.map_cons,compD,h1 a o (by simp)]
    simp only
    rw [h2 a (by simp)]
    have ih':=ih (some (.val (f a))) (fun a o h=>h1 a o (by simp [h])) (fun a h=>h2 a (by simp [h])) (fun a h=>h3 a (by simp [h]))
    cases q:p a with
    | true=>
      simp only
      rw [h3 a (by simp)]
      simp only
      rw [ih',List.filter_cons_of_pos q]
      rfl
    | false=>
      simp only
      rw [ih',List.filter_cons_of_neg (by simp [q])]
end PF
set_option Elab.async false
set_option linter.all false
set_option maxRecDepth 100000
set_option maxHeartbeats 4000000
namespace R
open PySem L2 PF
noncomputable def g_l_cell_at:DS→Option Fl:=
  (dSeq (dIf (dtB (dBin cLt (dVar 1) (dUn uLen (dVar 0)))) (dRet (dBin opIx (dVar 0) (dVar 1))) dNext)
    (dRet (dC (.int 0))))
noncomputable def m_l_cell_at:List D→M D:=fun ds=>okM (fin (g_l_cell_at (startN 2 ds)))
noncomputable def g_l_mixed (M_l_cell_at:List D→M D):DS→Option Fl:=
  (dSeq (dSet 2 (dBin (opC2 okMod fun i j=>i % j) (dBin opMul (dBin opAdd (dBin opAdd (dCall 2 M_l_cell_at (dCons (dVar 0) (dCons (dVar 1) dNil))) (dBin opMul (dC (.int 7919)) (dVar 1))) (dC (.int 1))) (dC (.int 48271))) (dC (.int 2147483647))))
    (dRet (dBin (opC2 okMod fun i j=>i % j) (dBin opAdd (dBin opAdd (dBin opMul (dVar 2) (dVar 2)) (dBin opMul (dC (.int 7)) (dVar 2))) (dVar 1)) (dC (.int 2147483629)))))
noncomputable def m_l_mixed:List D→M D:=fun ds=>okM (fin (g_l_mixed m_l_cell_at (startN 3 ds)))
noncomputable def g_l_drawn:DS→Option Fl:=
  (dSeq (dSet 2 (dBin (opC2 okMod fun i j=>i % j) (dBin opMul (dBin opAdd (dBin opAdd (dVar 0) (dBin opMul (dC (.int 104729)) (dVar 1))) (dC (.int 17))) (dC (.int 69621))) (dC (.int 2147483647))))
    (dRet (dBin (opC2 okMod fun i j=>i % j) (dBin opAdd (dBin opAdd (dBin opMul (dVar 2) (dVar 2)) (dBin opMul (dC (.int 3)) (dVar 2))) (dVar 1)) (dC (.int 2147483629)))))
noncomputable def m_l_drawn:List D→M D:=fun ds=>okM (fin (g_l_drawn (startN 3 ds)))
noncomputable def g_l_number:DS→Option Fl:=
  (dRet (dAndV (dUn (uIsiT "int") (dVar 0)) (dAndV (dNotV (dUn (uIsiT "bool") (dVar 0))) (dChain cLe cLe (dVar 1) (dVar 0) (dVar 2)))))
noncomputable def m_l_number:List D→M D:=fun ds=>okM (fin (g_l_number (startN 3 ds)))
noncomputable def b_l_sum_1 (M_l_drawn:List D→M D):DS→Option Fl:=
  (dSeq (dSet 6 (dCall 2 M_l_drawn (dCons (dVar 0) (dCons (dVar 5) dNil))))
    (dAppend 4 (dBin opMul (dBin (opC2 okMod fun i j=>i % j) (dBin (opC2 okDiv fun i j=>i / j) (dVar 6) (dC (.int 8))) (dVar 1)) (dUn uInt (dOrV (dBin cGt (dBin (opC2 okMod fun i j=>i % j) (dBin (opC2 okDiv fun i j=>i / j) (dVar 0) (dC (.int 16))) (dC (.int 3))) (dC (.int 0))) (dBin cEq (dBin (opC2 okMod fun i j=>i % j) (dVar 6) (dC (.int 3))) (dC (.int 0))))))))
noncomputable def g_l_sum (M_l_drawn:List D→M D):DS→Option Fl:=
  (dSeq (dSet 3 (dBin (opC2 okMod fun i j=>i % j) (dVar 0) (dBin opAdd (dVar 2) (dC (.int 1)))))
    (dSeq (dOwn 4 (dLst dNil))
    (dSeq (dFor (dRange1 (dCons (dVar 3) dNil)) (sName 5) (b_l_sum_1 M_l_drawn))
    (dSeq (dIf (dtB (dBin cGt (dVar 3) (dC (.int 0)))) (dStore 4 (dUn uNeg (dC (.int 1))) (dBin opAdd (dC (.int 1)) (dBin (opC2 okMod fun i j=>i % j) (dCall 2 M_l_drawn (dCons (dVar 0) (dCons (dC (.int 40)) dNil))) (dBin (opI2 fun i j=>i - j) (dVar 1) (dC (.int 1)))))) dNext)
    (dRet (dUn uTup (dVar 4)))))))
noncomputable def m_l_sum:List D→M D:=fun ds=>okM (fin (g_l_sum m_l_drawn (startN 7 ds)))
noncomputable def g_l_is_long_sum (M_l_number:List D→M D):DS→Option Fl:=
  (dSeq (dIf (dOr (dNot (dtB (dUn (uIsiT "tuple") (dVar 0)))) (dtB (dBin cNe (dOf (dComp 1 [1] (dIter (dVar 0)) (sName 0) (dNot (dtB (dCall 3 M_l_number (dCons (dVar 0) (dCons (dC (.int 0)) (dCons (dBin (opI2 fun i j=>i - j) (dVar 1) (dC (.int 1))) dNil)))))) (dVar 0))) (dOf (dLst dNil))))) (dRet (dC (.bl false))) dNext)
    (dRet (dOrV (dBin cEq (dVar 0) (dTup dNil)) (dBin cNe (dBin opIx (dVar 0) (dUn uNeg (dC (.int 1)))) (dC (.int 0))))))
noncomputable def m_l_is_long_sum:List D→M D:=fun ds=>okM (fin (g_l_is_long_sum m_l_number (startN 2 ds)))
noncomputable def g_l_is_sum (M_l_is_long_sum:List D→M D):DS→Option Fl:=
  (dRet (dAndV (dCall 2 M_l_is_long_sum (dCons (dVar 0) (dCons (dVar 1) dNil))) (dBin cLe (dUn uLen (dVar 0)) (dC (.int 9)))))
noncomputable def m_l_is_sum:List D→M D:=fun ds=>okM (fin (g_l_is_sum m_l_is_long_sum (startN 2 ds)))
noncomputable def g_written_term:DS→Option Fl:=
  (dSeq (dIf (dtB (dBin cEq (dVar 1) (dC (.int 0)))) (dRet (dUn uStr (dVar 0))) dNext)
    (dSeq (dSet 2 (dIfE (dtB (dBin cEq (dVar 0) (dC (.int 1)))) (dC (.str "")) (dUn uStr (dVar 0))))
    (dSeq (dSet 3 (dIfE (dtB (dBin cEq (dVar 1) (dC (.int 1)))) (dC (.str "")) (dUn uStr (dVar 1))))
    (dRet (dBin opAdd (dBin opAdd (dVar 2) (dC (.str "x"))) (dVar 3))))))
noncomputable def m_written_term:List D→M D:=fun ds=>okM (fin (g_written_term (startN 4 ds)))
noncomputable def b_l_written_1:DS→Option Fl:=
  (dSeq (dSet 3 (dBin opIx (dVar 0) (dVar 2)))
    (dIf (dAnd (dtB (dBin cNe (dVar 3) (dC (.int 0)))) (dtB (dBin cEq (dVar 2) (dC (.int 0))))) (dSet 1 (dBin opAdd (dBin opAdd (dVar 1) (dC (.str " + "))) (dUn uStr (dVar 3)))) (dIf (dtB (dBin cNe (dVar 3) (dC (.int 0)))) (dSet 1 (dBin opAdd (dBin opAdd (dBin opAdd (dBin opAdd (dVar 1) (dC (.str " + "))) (dBin opIx (dOf (dLst (dCons (dUn uStr (dVar 3)) (dCons (dC (.str "")) dNil)))) (dUn uInt (dBin cEq (dVar 3) (dC (.int 1)))))) (dC (.str "x"))) (dBin opIx (dOf (dLst (dCons (dUn uStr (dVar 2)) (dCons (dC (.str "")) dNil)))) (dUn uInt (dBin cEq (dVar 2) (dC (.int 1))))))) dNext)))
noncomputable def g_l_written:DS→Option Fl:=
  (dSeq (dSet 1 (dC (.str "")))
    (dSeq (dFor (dRange3 (dCons (dBin (opI2 fun i j=>i - j) (dUn uLen (dVar 0)) (dC (.int 1))) (dCons (dUn uNeg (dC (.int 1))) (dCons (dUn uNeg (dC (.int 1))) dNil)))) (sName 2) (b_l_written_1))
    (dSeq (dIf (dtB (dBin cEq (dVar 1) (dC (.str "")))) (dRet (dC (.str "0"))) dNext)
    (dRet (dSliceS (dVar 1) (dPart (dC (.int 3))) dNoPart)))))
noncomputable def m_l_written:List D→M D:=fun ds=>okM (fin (g_l_written (startN 4 ds)))
end R
set_option Elab.async false
set_option linter.all false
set_option maxRecDepth 100000
set_option maxHeartbeats 4000000
namespace PF
open PySem L2
noncomputable def tupZ (l:List Int):D:=.tup (l.map .int)
noncomputable def cellZ (l:List Int) (k:Nat):Int:=l.getD k 0
theorem E_cell (l:List Int) (k:Nat) (j:Int) (hj:j=k):R.m_l_cell_at [.scr l,.int j]=some (.ok (.int (cellZ l k))):=by
  subst hj
  unfold R.m_l_cell_at R.g_l_cell_at
  by_cases h:k < l.length
  · have h':(k:Int) < l.length:=by omega
    simp [h',atI_nat',cellZ,h]
  · have h':¬ (k:Int) < l.length:=by omega
    simp [h',cellZ,h]
noncomputable def mixedZ (l:List Int) (k:Nat):Int:=
  let d:=(cellZ l k + 7919 * k + 1) * 48271 % 2147483647
  (d * d + 7 * d + k) % 2147483629
theorem mod_lt31 (a:Int):0 ≤ a % 2147483647∧a % 2147483647 < 2147483647:=⟨Int.emod_nonneg _ (by decide),Int.emod_lt_of_pos _ (by decide)⟩
theorem E_mixed (l:List Int) (k:Nat) (hk:k ≤ 100) (j:Int) (hj:j=k):R.m_l_mixed [.scr l,.int j]=some (.ok (.int (mixedZ l k))):=by
  subst hj
  unfold R.m_l_mixed R.g_l_mixed mixedZ
  have hd:=mod_lt31 ((cellZ l k + 7919 * k + 1) * 48271)
  have e1:okMul 7919 (k:Int)=true:=okMul_l (by decide) (by decide)
  have e2:∀ i:Int,okMul i 48271=true:=fun i=>okMul_r (by decide) (by decide)
  have e3:okMul ((cellZ l k + 7919 * k + 1) * 48271 % 2147483647) ((cellZ l k + 7919 * k + 1) * 48271 % 2147483647)=true:=okMul_l (by (clear e2 e1 hd hk; omega)) (by (clear e2 e1 hd hk; omega))
  have e4:∀ i:Int,okMul 7 i=true:=fun i=>okMul_l (by decide) (by decide)
  simp [E_cell l k _ rfl,e1,e2,e3,e4]
theorem mixed_nn (l:List Int) (k:Nat):0 ≤ mixedZ l k∧mixedZ l k < 2147483629:=⟨Int.emod_nonneg _ (by decide),Int.emod_lt_of_pos _ (by decide)⟩
noncomputable def drawnZ (n k:Int):Int:=
  let d:=(n + 104729 * k + 17) * 69621 % 2147483647
  (d * d + 3 * d + k) % 2147483629
theorem E_drawn (n k:Int) (h0:0 ≤ k) (h1:k ≤ 100):R.m_l_drawn [.int n,.int k]=some (.ok (.int (drawnZ n k))):=by
  unfold R.m_l_drawn R.g_l_drawn drawnZ
  have hd:=mod_lt31 ((n + 104729 * k + 17) * 69621)
  have e1:okMul 104729 k=true:=okMul_l (by decide) (by decide)
  have e2:∀ i:Int,okMul i 69621=true:=fun i=>okMul_r (by decide) (by decide)
  have e3:okMul ((n + 104729 * k + 17) * 69621 % 2147483647) ((n + 104729 * k + 17) * 69621 % 2147483647)=true:=okMul_l (by (clear e2 e1 hd h1 h0; omega)) (by (clear e2 e1 hd h1 h0; omega))
  have e4:∀ i:Int,okMul 3 i=true:=fun i=>okMul_l (by decide) (by decide)
  simp [e1,e2,e3,e4]
theorem drawn_nn (n k:Int):0 ≤ drawnZ n k∧drawnZ n k < 2147483629:=⟨Int.emod_nonneg _ (by decide),Int.emod_lt_of_pos _ (by decide)⟩
noncomputable def Red (p:Int) (l:List Int):Prop:=∀ x ∈ l,0 ≤ x∧x < p
noncomputable def Top (l:List Int):Prop:=l.getLast? ≠ some 0
noncomputable def Sm (p:Int) (l:List Int):Prop:=Red p l∧Top l
noncomputable def Clock (p:Int):Prop:=p=2∨p=3∨p=5
theorem Clock.two_le {p:Int} (h:Clock p):2 ≤ p∧p ≤ 5:=by rcases h with h | h | h <;> omega
noncomputable def isNum (p:Int):D→Bool
  | .int i=>decide (0 ≤ i) && decide (i < p)
  | _=>false
theorem E_number (d:D) (p:Int):R.m_l_number [d,.int 0,.int (p - 1)]=some (.ok (.bl (isNum p d))):=by
  unfold R.m_l_number R.g_l_number
  cases d with
  | int i=>
    by_cases h:0 ≤ i
    · have e:(i ≤ p - 1)=(i < p):=by apply propext; (clear h; omega)
      simp [isNum,h,e]
    · simp [isNum,h]
  | _=>simp [isNum]
theorem loopD_cons {set:D→DS→Option DS} {g:DS→Option Fl} {d:D} {r:List D} {S S1 S2:DS} (h1:set d S=some S1) (h2:g S1=some (.next S2)):loopD set g (d :: r) S=loopD set g r S2:=by
  rw [loopD,h1]
  simp only
  rw [h2]
theorem loopD_inv {set:D→DS→Option DS} {g:DS→Option Fl} (P:Nat→DS→Prop):∀ (l:List D) (i:Nat) (S:DS),P i S→(∀ k d S,l[k]?=some d→P (i + k) S→∃ S1 S2,set d S=some S1∧g S1=some (.next S2)∧P (i + k + 1) S2)→
    ∃ S',loopD set g l S=some (.next S')∧P (i + l.length) S'
  | [],i,S,h0,_=>⟨S,rfl,h0⟩
  | d :: l,i,S,h0,hs=>by
    obtain ⟨S1,S2,e1,e2,p⟩:=hs 0 d S rfl h0
    rw [loopD_cons e1 e2]
    obtain ⟨S',e,q⟩:=loopD_inv P l (i + 1) S2 p fun k d S h hp=>by
      have z:i + 1 + k=i + (k + 1):=by (clear hp h p e2 e1 hs h0; omega)
      obtain ⟨S1,S2,e1,e2,p⟩:=hs (k + 1) d S (by simpa using h) (z ▸ hp)
      exact ⟨S1,S2,e1,e2,by rw [z]; exact p⟩
    have z:i + (d :: l).length=i + 1 + l.length:=by simp; omega
    refine ⟨S',e,?_⟩
    rw [z]; exact q
theorem loopD_inv0 {set:D→DS→Option DS} {g:DS→Option Fl} (P:Nat→DS→Prop) {l:List D} {S:DS} (h0:P 0 S) (hs:∀ k d S,l[k]?=some d→P k S→∃ S1 S2,set d S=some S1∧g S1=some (.next S2)∧P (k + 1) S2) :
    ∃ S',loopD set g l S=some (.next S')∧P l.length S':=by
  have:=loopD_inv P l 0 S h0 (fun k d S h p=>by
    rw [Nat.zero_add] at p ⊢
    exact hs k d S h p)
  rw [Nat.zero_add] at this
  exact this
theorem rangeD_get {lo hi:Int} {k:Nat} {d:D} (h:(rangeD lo hi)[k]?=some d):d=.int (lo + k)∧(k:Int) < hi - lo:=by
  unfold rangeD at h
  rw [List.getElem?_map] at h
  cases q:(List.range (hi - lo).toNat)[k]? with
  | none=>rw [q] at h; cases h
  | some j=>
    rw [q] at h
    have q':=List.getElem?_eq_some_iff.mp q
    obtain ⟨h1,h2⟩:=q'
    rw [List.getElem_range] at h2
    rw [List.length_range] at h1
    subst h2
    simp at h
    exact ⟨h.symm,by (clear h q; omega)⟩
theorem rangeD_len (lo hi:Int):(rangeD lo hi).length=(hi - lo).toNat:=by simp [rangeD]
theorem ixN_neg1 {n:Nat} (h:0 < n):ixN n (-1)=some (n - 1):=by
  unfold ixN
  rw [if_neg (by (clear h; omega)),if_pos (by omega)]
  congr 1
  (clear h; omega)
theorem Red.set {p:Int} {l:List Int} (h:Red p l) {x:Int} (hx:0 ≤ x∧x < p) (i:Nat):Red p (l.set i x):=fun y hy=>by
  rcases List.mem_or_eq_of_mem_set hy with h1 | h1
  · exact h y h1
  · subst h1; exact hx
theorem Red.snoc {p:Int} {l:List Int} (h:Red p l) {x:Int} (hx:0 ≤ x∧x < p):Red p (l ++ [x]):=fun y hy=>by
  rcases List.mem_append.mp hy with h1 | h1
  · exact h y h1
  · simp at h1; subst h1; exact hx
theorem L_sum {p:Int} (hp:Clock p) (n most:Int) (m:Nat) (hm:m ≤ 90) :
    ∃ (l:List Int) (v5 v6:Option Slot),loopD (sName 5) (R.b_l_sum_1 R.m_l_drawn) (rangeD 0 m) [some (.val (.int n)),some (.val (.int p)),some (.val (.int most)),some (.val (.int m)),some (.own []),none,none] =
      some (.next [some (.val (.int n)),some (.val (.int p)),some (.val (.int most)),some (.val (.int m)),some (.own (l.map D.int)),v5,v6])∧l.length=m∧Red p l:=by
  have hp2:=hp.two_le
  obtain ⟨S',e,l,v5,v6,hS,hl,hr⟩:=loopD_inv0 (set:=sName 5) (g:=R.b_l_sum_1 R.m_l_drawn)
    (fun k S=>∃ (l:List Int) (v5 v6:Option Slot),S=[some (.val (.int n)),some (.val (.int p)),some (.val (.int most)),some (.val (.int m)),some (.own (l.map D.int)),v5,v6]∧l.length=k∧Red p l)
    (l:=rangeD 0 m) (S:=[some (.val (.int n)),some (.val (.int p)),some (.val (.int most)),some (.val (.int m)),some (.own []),none,none])
    ⟨[],none,none,rfl,rfl,fun x h=>by simp at h⟩ (fun k d S hk ⟨l,v5,v6,hS,hl,hr⟩=>by
      obtain ⟨rfl,hk2⟩:=rangeD_get hk
      subst hS
      have kb:(k:Int) ≤ 100:=by (clear hk hr hl hp2 hp; omega)
      rw [Int.zero_add]
      have hd:=drawn_nn n k
      have hz:0 ≤ drawnZ n k / 8 % p∧drawnZ n k / 8 % p < p:=⟨Int.emod_nonneg _ (by (clear hd kb hk hk2 hr hl hm hp; omega)),Int.emod_lt_of_pos _ (by (clear hd kb hk hk2 hr hl hm hp; omega))⟩
      have hpp:0 < p:=by (clear hz hd kb hk hk2 hr hl hm hp; omega)
      refine ⟨_,_,rfl,?_,l ++ [drawnZ n k / 8 % p * (if (decide (n / 16 % 3 > 0) || (drawnZ n k % 3 == 0))=true then 1 else 0)],some (.val (.int k)),some (.val (.int (drawnZ n k))),rfl,?_,?_⟩
      · have e1:∀ j:Int,okMul (drawnZ n k / 8 % p) j=true:=fun j=>okMul_l (by (clear hpp hd kb hk hk2 hr hl hp2 hm hp; omega)) (by (clear hpp hd kb hk hk2 hr hl hm hp; omega))
        have e2:l.length < 100000:=by (clear e1 hpp hz hd kb hk hr hp2 hp; omega)
        have e3:=E_drawn n k (by (clear e2 e1 hpp hz hd kb hk hk2 hr hl hp2 hm hp; omega)) (by (clear e2 e1 hpp hz hd kb hk hr hl hp2 hp; omega))
        unfold R.b_l_sum_1
        by_cases c1:n / 16 % 3 > 0
        · simp [e3,hpp,c1,e1,e2]
        · by_cases c2:drawnZ n k % 3=0
          · simp [e3,hpp,c1,c2,e1,e2]
          · simp [e3,hpp,c1,c2,e1,e2]
      · simp [hl]
      · refine hr.snoc ?_
        split <;> (clear hpp hd kb hk hk2 hr hl hm hp; omega))
  subst hS
  rw [rangeD_len] at hl
  exact ⟨l,v5,v6,e,by (clear e hr hp2 hm hp; omega),hr⟩
theorem E_sum {p:Int} (hp:Clock p) (n most:Int) (h0:0 ≤ n) (m0:0 ≤ most) (m1:most ≤ 20) :
    ∃ l,Sm p l∧(l.length:Int)=n % (most + 1)∧R.m_l_sum [.int n,.int p,.int most]=some (.ok (tupZ l)):=by
  have hp2:=hp.two_le
  have hm:=Int.emod_nonneg n (show most + 1 ≠ 0 by (clear hp2 m1 h0 hp; omega))
  have hm2:=Int.emod_lt_of_pos n (show 0 < most + 1 by (clear hm hp2 m1 h0 hp; omega))
  have hq:(0:Int) < most + 1:=by (clear hm2 hm hp2 m1 h0 hp; omega)
  obtain ⟨m,em⟩:∃ m:Nat,n % (most + 1)=m:=⟨(n % (most + 1)).toNat,by (clear hq hm2 hp2 m1 m0 h0 hp; omega)⟩
  have hmm:m ≤ 90:=by (clear hq hm hp2 m0 h0 hp; omega)
  have hm9:-1000000000 ≤ (m:Int)∧(m:Int) ≤ 1000000000:=by (clear hmm hq hm hp2 m0 h0 hp; omega)
  obtain ⟨l,v5,v6,e,hl,hr⟩:=L_sum hp n most m hmm
  unfold R.m_l_sum R.g_l_sum
  rw [em]
  by_cases c:0 < m
  · have c':(0:Int) < m:=by (clear hr hl e hm9 hmm em hq hm2 hm hp2 m1 m0 h0 hp; omega)
    have hne:0 < l.length:=by (clear c' hr e hm9 hmm em hq hm2 hm hp2 m1 m0 h0 hp; omega)
    have hq2:0 < p - 1:=by (clear hne c' c hr hl e hm9 hmm em hq hm2 hm m1 m0 h0 hp; omega)
    have hz:0 ≤ drawnZ n 40 % (p - 1)∧drawnZ n 40 % (p - 1) < p - 1:=⟨Int.emod_nonneg _ (by (clear hq2 hne c' c hr hl e hm9 hmm em hq hm2 hm m1 m0 h0 hp; omega)),Int.emod_lt_of_pos _ (by (clear hq2 hne c' c hr hl e hm9 hmm em hq hm2 hm m1 m0 h0 hp; omega))⟩
    refine ⟨l.set (l.length - 1) (1 + drawnZ n 40 % (p - 1)),⟨hr.set (by (clear hq2 hne c' c hr hl e hm9 hmm em hq hm2 hm hp2 m1 m0 h0 hp; omega)) _,?_⟩,by simp; (clear hz hq2 hne c' c hr e hm9 hmm em hq hm2 hm hp2 m1 m0 h0 hp; omega),?_⟩
    · unfold Top
      rw [List.getLast?_eq_getElem?]
      simp
      rw [List.getElem?_set_self (by (clear hz hq2 hne c' hr e hm9 hmm em hq hm2 hm hp2 m1 m0 h0 hp; omega))]
      simp
      (clear hq2 hne c' c hr hl e hm9 hmm em hq hm2 hm hp2 m1 m0 h0 hp; omega)
    · simp [show (1:Int) < p by (clear hz hq2 hne c' c hr hl e hm9 hmm em hq hm2 hm m1 m0 h0 hp; omega),c,em,hq,hm9,e,c',ixN_neg1 hne,E_drawn n 40 (by decide) (by decide),hq2,tupZ]
  · have hz:l=[]:=List.eq_nil_of_length_eq_zero (by (clear hr e hm9 hmm em hq hm2 hm hp2 m1 m0 h0 hp; omega))
    have hm0:m=0:=by (clear hz hr hl e hm9 hmm em hq hm2 hm hp2 m1 m0 h0 hp; omega)
    subst hz
    subst hm0
    refine ⟨[],⟨fun x h=>by simp at h,by simp [Top]⟩,by simp,?_⟩
    simp at e
    simp [em,hq,hm9,e,tupZ]
end PF
set_option Elab.async false
set_option linter.all false
set_option maxRecDepth 100000
set_option maxHeartbeats 4000000
namespace PF
open PySem L2
noncomputable def Fine (d:D):Prop:=dep d ≤ 40∧∀ l,d=.tup l→l.length ≤ 1000
noncomputable def isLong (p:Int):D→Bool
  | .tup l=>l.all (isNum p) && (l.isEmpty || (match l.getLast? with | some (.int i)=>!decide (i=0) | _=>true))
  | _=>false
noncomputable def isSumD (p:Int) (d:D):Bool:=isLong p d && (match d with | .tup l=>decide (l.length ≤ 9) | _=>false)
theorem last_int {p:Int} {l:List D} (h:l.all (isNum p)=true) (hne:l ≠ []):∃ i:Int,l.getLast?=some (.int i):=by
  have hm:l.getLast hne ∈ l:=List.getLast_mem hne
  have q:=List.all_eq_true.mp h _ hm
  rw [List.getLast?_eq_some_getLast hne]
  cases z:l.getLast hne with
  | int i=>exact ⟨i,rfl⟩
  | _=>rw [z] at q; cases q
theorem dep_filter {l:List D} {f:D→Bool}:deps (l.filter f) ≤ deps l:=by
  induction l with
  | nil=>exact Nat.le_refl _
  | cons d l ih=>
    rw [List.filter_cons,deps]
    split
    · rw [deps]; omega
    · omega
theorem deq_lst_nil (l:List D):deq (.lst l) (.lst [])=l.isEmpty:=by
  cases l with
  | nil=>simp [deq,deqs]
  | cons a l=>simp [deq,deqs]
theorem deq_tup_nil (l:List D):deq (.tup l) (.tup [])=l.isEmpty:=by
  cases l with
  | nil=>simp [deq,deqs]
  | cons a l=>simp [deq,deqs]
theorem cNe_lst_nil (l:List D) (h:deps l ≤ 90):cNe (.lst l) (.lst [])=some (.bl (!l.isEmpty)):=by
  unfold cNe
  rw [if_pos (by simp [dep,deps]; omega),deq_lst_nil]
theorem cEq_tup_nil (l:List D) (h:deps l ≤ 90):cEq (.tup l) (.tup [])=some (.bl l.isEmpty):=by
  unfold cEq
  rw [if_pos (by simp [dep,deps]; omega),deq_tup_nil]
theorem filter_empty {α:Type} (l:List α) (f:α→Bool):(l.filter fun x=>!f x).isEmpty=l.all f:=by
  induction l with
  | nil=>rfl
  | cons a l ih=>
    rw [List.filter_cons,List.all_cons]
    cases q:f a <;> simp [ih]
theorem E_long (d:D) (p:Int) (h:Fine d):R.m_l_is_long_sum [d,.int p]=some (.ok (.bl (isLong p d))):=by
  unfold R.m_l_is_long_sum R.g_l_is_long_sum
  cases d with
  | tup l=>
    have hl:=h.2 l rfl
    have hd:deps l ≤ 39:=by have:=h.1; rw [dep] at this; (clear hl h; omega)
    have e3:l.length ≤ 100000:=by (clear hd h; omega)
    have e2:=compD_filter (set:=sName 0) (t:=dNot (dtB (dCall 3 R.m_l_number (dCons (dVar 0) (dCons (dC (.int 0)) (dCons (dBin (opI2 fun i j=>i - j) (dVar 1) (dC (.int 1))) dNil)))))) (fe:=dVar 0) (γ:=D) id id (fun d=>!isNum p d) (fun o=>[o,some (.val (.int p))]) l none
        (fun a o _=>rfl) (fun a _=>by simp [E_number]) (fun a _=>rfl)
    simp only [List.map_id] at e2
    have e4:=cNe_lst_nil (l.filter fun d=>!isNum p d) (by have:=dep_filter (l:=l) (f:=fun d=>!isNum p d); (clear e2 e3 hl h; omega))
    rw [filter_empty] at e4
    have e5:=cEq_tup_nil l (by (clear e4 e2 e3 hl h; omega))
    simp only [dSeq_e,dIf_e,dOr_e,dNot_e,dtB_e,dUn_e,dVar_e,startN_2,rep_0,List.getElem?_cons_zero,List.getElem?_cons_succ,mb_ok,toD_ok,uIsiT_e,tyN_tup,isi_tt,vr_some,dBin_e,uLen_tup,dC_e,cGt_e,dNext_e,dOf_e,dComp_e,dIter_e,items_tup,cap_e]
    by_cases c2:l.all (isNum p)=true
    · rw [c2] at e4
      by_cases c3:l=[]
      · subst c3
        simp at e2 e4 e5
        simp [e2,e4,e5,isLong]
      · obtain ⟨i,hi⟩:=last_int c2 c3
        have c3':l.isEmpty=false:=by simpa using c3
        rw [c3'] at e5
        simp [e2,e3,e4,e5,atI_last,hi,isLong,c2,c3']
    · have c2f:l.all (isNum p)=false:=by simpa using c2
      rw [c2f] at e4
      simp [e2,e3,e4,isLong,c2f]
  | _=>simp [isLong]
theorem E_lsum (d:D) (p:Int) (h:Fine d):R.m_l_is_sum [d,.int p]=some (.ok (.bl (isSumD p d))):=by
  unfold R.m_l_is_sum R.g_l_is_sum
  cases d with
  | tup l=>
    cases c:isLong p (.tup l) with
    | true=>
      by_cases c9:l.length ≤ 9
      · have c':(l.length:Int) ≤ 9:=by (clear c h; omega)
        simp [E_long _ p h,c,isSumD,c',c9]
      · have c':¬ (l.length:Int) ≤ 9:=by (clear c h; omega)
        simp [E_long _ p h,c,isSumD,c',c9]
    | false=>simp [E_long _ p h,c,isSumD]
  | _=>simp [E_long _ p h,isSumD,isLong]
theorem strOk_0:PyData.strOk ("" : Str)=true:=by decide +kernel
theorem strOk_x:PyData.strOk ("x" : Str)=true:=by decide +kernel
theorem deps_le {l:List D} {n:Nat} (h:∀ d ∈ l,dep d ≤ n):deps l ≤ n:=by
  induction l with
  | nil=>exact Nat.zero_le _
  | cons a l ih=>
    rw [deps]
    have:=h a (by simp)
    have:=ih fun d hd=>h d (by simp [hd])
    (clear h ih; omega)
theorem mem_cutD {α:Type} {l:List α} {lo hi:Option Int} {x:α} (h:x ∈ cutD l lo hi):x ∈ l:=List.mem_of_mem_drop (List.mem_of_mem_take h)
noncomputable def Flat (n:Nat) (l:List D):Prop:=l.length ≤ n∧∀ d ∈ l,dep d ≤ 5
theorem Flat.ints {l:List Int} {n:Nat} (h:l.length ≤ n):Flat n (l.map D.int):=⟨by simpa using h,fun d hd=>by
  obtain ⟨i,_,rfl⟩:=List.mem_map.mp hd
  simp [dep]⟩
theorem Flat.one {d:D} (h:dep d ≤ 5):Flat 1 [d]:=⟨by simp,fun x hx=>by simp at hx; subst hx; exact h⟩
theorem Flat.fine {l:List D} {n:Nat} (h:Flat n l) (hn:n ≤ 1000):Fine (.tup l)∧Fine (.lst l):=by
  have:=deps_le h.2
  refine ⟨⟨by rw [dep]; (clear hn h; omega),fun l' e=>?_⟩,⟨by rw [dep]; (clear hn h; omega),fun l' e=>by cases e⟩⟩
  injection e with e; subst e
  exact Nat.le_trans h.1 hn
theorem size_of (ns:List Int):∃ p,Clock p∧∀ {S:DS} (hS:S[0]?=some (some (.val (.scr ns)))),dBin opIx (dTup (dCons (dC (.int 2)) (dCons (dC (.int 3)) (dCons (dC (.int 5)) dNil)))) (dBin (opC2 okMod fun i j=>i % j) (dCall 2 R.m_l_mixed (dCons (dVar 0) (dCons (dC (.int 0)) dNil))) (dC (.int 3))) S=some (.ok (.ok (.int p))):=by
  have h1:=Int.emod_nonneg (mixedZ ns 0) (show (3:Int) ≠ 0 by decide)
  have h2:=Int.emod_lt_of_pos (mixedZ ns 0) (show (0:Int) < 3 by decide)
  have e:=E_mixed ns 0 (by decide) 0 rfl
  have hk:mixedZ ns 0 % 3=0∨mixedZ ns 0 % 3=1∨mixedZ ns 0 % 3=2:=by (clear e h2 h1; omega)
  rcases hk with hk | hk | hk
  · exact ⟨2,.inl rfl,fun {S} hS=>by simp [hS,e,hk,atI_nat']⟩
  · exact ⟨3,.inr (.inl rfl),fun {S} hS=>by simp [hS,e,hk,atI_nat']⟩
  · exact ⟨5,.inr (.inr rfl),fun {S} hS=>by simp [hS,e,hk,atI_nat']⟩
end PF
namespace K01
open PySem L2 PF
end K01
set_option Elab.async false
set_option linter.all false
set_option maxRecDepth 10000
namespace PA
open Lean.Grind
structure Ser (R:Type) where
  c:Nat→R
section
variable {R:Type} [CommRing R]
@[ext] theorem Ser.ext {f g:Ser R} (h:∀ k,f.c k=g.c k):f=g:=by
  cases f; cases g; congr; exact funext h
noncomputable def sh (f:Nat→R):Nat→R:=fun k=>f (k + 1)
noncomputable def cv:(Nat→R)→(Nat→R)→Nat→R
  | f,g,0=>f 0 * g 0
  | f,g,n + 1=>f 0 * g (n + 1) + cv (sh f) g n
theorem cv_add (f f' g:Nat→R) (n:Nat):cv (fun k=>f k + f' k) g n=cv f g n + cv f' g n:=by
  induction n generalizing f f' with
  | zero=>simp only [cv]; grind
  | succ n ih=>
    rw [cv,cv,cv]
    have e:sh (fun k=>f k + f' k)=fun k=>sh f k + sh f' k:=rfl
    rw [e,ih (sh f) (sh f')]; grind
theorem cv_add' (f g g':Nat→R) (n:Nat):cv f (fun k=>g k + g' k) n=cv f g n + cv f g' n:=by
  induction n generalizing f with
  | zero=>simp only [cv]; grind
  | succ n ih=>simp only [cv]; rw [ih (sh f)]; grind
theorem cv_mul (a:R) (f g:Nat→R) (n:Nat):cv (fun k=>a * f k) g n=a * cv f g n:=by
  induction n generalizing f with
  | zero=>simp only [cv]; grind
  | succ n ih=>
    rw [cv,cv]
    have e:sh (fun k=>a * f k)=fun k=>a * sh f k:=rfl
    rw [e,ih (sh f)]; grind
theorem cv_last (f g:Nat→R) (n:Nat):cv f g (n + 1)=cv f (sh g) n + f (n + 1) * g 0:=by
  induction n generalizing f with
  | zero=>simp only [cv,sh]
  | succ n ih=>
    rw [cv,ih (sh f)]
    simp only [cv,sh]
    grind
theorem cv_comm (f g:Nat→R) (n:Nat):cv f g n=cv g f n:=by
  induction n generalizing f g with
  | zero=>simp only [cv]; grind
  | succ n ih=>
    rw [cv,cv_last g f,ih (sh f) g]; grind
theorem cv_assoc (f g h:Nat→R) (n:Nat):cv (cv f g) h n=cv f (cv g h) n:=by
  induction n generalizing f with
  | zero=>simp only [cv]; grind
  | succ n ih=>
    have e:sh (cv f g)=fun k=>f 0 * sh g k + cv (sh f) g k:=funext fun k=>by simp only [sh,cv]
    have e1:=cv_add (fun k=>f 0 * sh g k) (cv (sh f) g) h n
    have e2:=cv_mul (f 0) (sh g) h n
    have e3:=ih (sh f)
    rw [cv,e,e1,e2,e3]
    simp only [cv]
    grind
theorem cv_zero (g:Nat→R) (n:Nat):cv (fun _=>(0:R)) g n=0:=by
  induction n with
  | zero=>simp only [cv]; grind
  | succ n ih=>
    have e:sh (fun _:Nat=>(0:R))=fun _=>0:=rfl
    rw [cv,e,ih]; grind
noncomputable def onec:Nat→R:=fun k=>if k=0 then 1 else 0
theorem sh_one:sh (onec:Nat→R)=fun _=>0:=funext fun k=>by simp [sh,onec]
theorem cv_one (g:Nat→R) (n:Nat):cv onec g n=g n:=by
  cases n with
  | zero=>simp only [cv,onec]; grind
  | succ n=>
    rw [cv,sh_one,cv_zero]
    simp only [onec]; grind
noncomputable instance:Add (Ser R):=⟨fun f g=>⟨fun k=>f.c k + g.c k⟩⟩
noncomputable instance:Mul (Ser R):=⟨fun f g=>⟨cv f.c g.c⟩⟩
noncomputable instance:Neg (Ser R):=⟨fun f=>⟨fun k=>- f.c k⟩⟩
noncomputable instance:Sub (Ser R):=⟨fun f g=>⟨fun k=>f.c k - g.c k⟩⟩
noncomputable def Cn (a:R):Ser R:=⟨fun k=>if k=0 then a else 0⟩
noncomputable instance (n:Nat):OfNat (Ser R) n:=⟨Cn (OfNat.ofNat n)⟩
noncomputable def nc (n:Nat):R:=(Semiring.natCast (α:=R)).natCast n
noncomputable def ic (i:Int):R:=(Ring.intCast (α:=R)).intCast i
noncomputable instance:NatCast (Ser R):=⟨fun n=>Cn (nc n)⟩
noncomputable instance:IntCast (Ser R):=⟨fun n=>Cn (ic n)⟩
noncomputable def npw (f:Ser R):Nat→Ser R
  | 0=>1
  | n + 1=>npw f n * f
noncomputable instance:HPow (Ser R) Nat (Ser R):=⟨npw⟩
noncomputable instance:SMul Nat (Ser R):=⟨fun n f=>(n:Ser R) * f⟩
noncomputable instance:SMul Int (Ser R):=⟨fun n f=>(n:Ser R) * f⟩
theorem add_c (f g:Ser R) (k:Nat):(f + g).c k=f.c k + g.c k:=rfl
theorem sub_c (f g:Ser R) (k:Nat):(f - g).c k=f.c k - g.c k:=rfl
theorem neg_c (f:Ser R) (k:Nat):(-f).c k=- f.c k:=rfl
theorem mul_c (f g:Ser R) (k:Nat):(f * g).c k=cv f.c g.c k:=rfl
theorem zero_c (k:Nat):(0:Ser R).c k=0:=by
  show (if k=0 then (OfNat.ofNat 0:R) else 0)=0
  split <;> rfl
theorem zero_eq:(0:Ser R).c=fun _=>(0:R):=funext zero_c
theorem one_eq:(1:Ser R).c=onec:=rfl
theorem sm_mul (f g:Ser R):f * g=g * f:=Ser.ext fun k=>cv_comm _ _ k
theorem Cn_neg (a:R):Cn (-a)=- Cn a:=Ser.ext fun k=>by
  show (if k=0 then -a else 0)=-(if k=0 then a else 0)
  split <;> grind
noncomputable instance:CommRing (Ser R) where
  add_zero f:=Ser.ext fun k=>by rw [add_c,zero_c]; grind
  add_comm f g:=Ser.ext fun k=>by rw [add_c,add_c]; grind
  add_assoc f g h:=Ser.ext fun k=>by simp only [add_c]; grind
  mul_assoc f g h:=Ser.ext fun k=>cv_assoc _ _ _ k
  mul_one f:=by rw [sm_mul]; exact Ser.ext fun k=>by rw [mul_c,one_eq,cv_one]
  one_mul f:=Ser.ext fun k=>by rw [mul_c,one_eq,cv_one]
  left_distrib f g h:=Ser.ext fun k=>cv_add' _ _ _ k
  right_distrib f g h:=Ser.ext fun k=>cv_add _ _ _ k
  zero_mul f:=Ser.ext fun k=>by rw [mul_c,zero_eq,cv_zero]
  mul_zero f:=by rw [sm_mul]; exact Ser.ext fun k=>by rw [mul_c,zero_eq,cv_zero]
  pow_zero f:=rfl
  pow_succ f n:=rfl
  ofNat_succ n:=Ser.ext fun k=>by
    rw [add_c]
    show (if k=0 then (OfNat.ofNat (n + 1):R) else 0)=(if k=0 then (OfNat.ofNat n:R) else 0) + (if k=0 then (OfNat.ofNat 1:R) else 0)
    split
    · exact Semiring.ofNat_succ n
    · grind
  ofNat_eq_natCast n:=Ser.ext fun k=>by
    show (if k=0 then (OfNat.ofNat n:R) else 0)=(if k=0 then (nc n:R) else 0)
    rw [show (OfNat.ofNat n:R)=nc n from Semiring.ofNat_eq_natCast n]
  nsmul_eq_natCast_mul n f:=rfl
  neg_add_cancel f:=Ser.ext fun k=>by rw [add_c,neg_c,zero_c]; grind
  sub_eq_add_neg f g:=Ser.ext fun k=>by rw [add_c,neg_c,sub_c]; grind
  neg_zsmul i f:=by
    show ((-i:Int):Ser R) * f=-((i:Ser R) * f)
    have e:((-i:Int):Ser R)=- (i:Ser R):=by
      show Cn (ic (-i):R)=- Cn (ic i:R)
      rw [show (ic (-i):R)=- ic i from Ring.intCast_neg i,Cn_neg]
    rw [e]
    refine Ser.ext fun k=>?_
    rw [neg_c,mul_c,mul_c]
    have e2:(-(i:Ser R)).c=fun k=>(-1:R) * (i:Ser R).c k:=funext fun k=>by rw [neg_c]; grind
    rw [e2,cv_mul]; grind
  zsmul_natCast_eq_nsmul n f:=by
    show ((n:Int):Ser R) * f=(n:Ser R) * f
    have e:((n:Int):Ser R)=(n:Ser R):=by
      show Cn (ic (n:Int):R)=Cn (nc n:R)
      rw [show (ic (n:Int):R)=nc n from Ring.intCast_natCast n]
    rw [e]
  intCast_ofNat n:=by
    show Cn (ic (OfNat.ofNat n:Int):R)=Cn (OfNat.ofNat n:R)
    rw [show (ic (OfNat.ofNat n:Int):R)=OfNat.ofNat n from Ring.intCast_ofNat n]
  intCast_neg i:=by
    show Cn (ic (-i):R)=- Cn (ic i:R)
    rw [show (ic (-i):R)=- ic i from Ring.intCast_neg i,Cn_neg]
  mul_comm f g:=sm_mul f g
example (f g h:Ser R):(f + g) * h - g * h=h * f:=by grind
noncomputable def mn (a:R) (k:Nat):Ser R:=⟨fun n=>if n=k then a else 0⟩
theorem mn_one:(mn 1 0:Ser R)=1:=rfl
noncomputable def Bd (f:Ser R) (n:Nat):Prop:=∀ k,n ≤ k→f.c k=0
theorem Bd.zero (n:Nat):Bd (0:Ser R) n:=fun k _=>zero_c k
theorem Bd.mn (a:R) (k:Nat):Bd (mn a k) (k + 1):=fun n hn=>by simp only [PA.mn]; rw [if_neg (by omega)]
end
end PA
set_option Elab.async false
set_option linter.all false
set_option maxRecDepth 100000
set_option maxHeartbeats 4000000
namespace PF
open PySem L2 PA
section
variable {q:Nat} [NeZero q]
noncomputable def co (l:List Int) (k:Nat):Int:=l.getD k 0
theorem getD_lt {l:List Int} {k:Nat} (h:k < l.length):co l k=l[k]:=by simp [co,List.getD,h]
theorem getD_ge {l:List Int} {k:Nat} (h:l.length ≤ k):co l k=0:=by simp [co,List.getD,h]
noncomputable def Nm (l r:List Int):Prop:=∃ n,n ≤ l.length∧r=l.take n∧(∀ k,n ≤ k→co l k=0)∧Top r
theorem Nm.len {l r:List Int} (h:Nm l r):r.length ≤ l.length:=by
  obtain ⟨n,h1,rfl,h2,_⟩:=h
  simp; (clear h2 h1; omega)
theorem Top.last {l:List Int} (h:Top l) (hne:l ≠ []):co l (l.length - 1) ≠ 0:=by
  intro e
  apply h
  have hl:=List.length_pos_iff.mpr hne
  rw [List.getLast?_eq_getElem?,List.getElem?_eq_getElem (by (clear e hne h; omega))]
  rw [getD_lt (by (clear e hne h; omega))] at e
  rw [e]
theorem deqs_ints:∀ a b:List Int,deqs (a.map D.int) (b.map D.int)=decide (a=b)
  | [],[]=>by simp [deqs]
  | [],_ :: _=>by simp [deqs]
  | _ :: _,[]=>by simp [deqs]
  | x :: a,y :: b=>by
    simp only [List.map_cons,deqs,deq,deqs_ints a b]
    by_cases h:x=y
    · subst h; simp
    · simp [h]
theorem deps_i (l:List Int):deps (l.map D.int)=0:=by
  induction l with
  | nil=>rfl
  | cons a l ih=>simp [deps,dep,ih]
@[simp] theorem cEq_tupZ (a b:List Int):cEq (tupZ a) (tupZ b)=some (.bl (decide (a=b))):=by
  unfold cEq tupZ
  rw [if_pos (by simp [dep,deps_i]),deq,deqs_ints]
@[simp] theorem cNe_tupZ (a b:List Int):cNe (tupZ a) (tupZ b)=some (.bl (!decide (a=b))):=by
  unfold cNe tupZ
  rw [if_pos (by simp [dep,deps_i]),deq,deqs_ints]
@[simp] theorem cNe_lz_nil (a:List Int):cNe (.lst (a.map D.int)) (.lst [])=some (.bl (!decide (a=[]))):=by
  have:cNe (.lst (a.map D.int)) (.lst (([]:List Int).map D.int))=some (.bl (!decide (a=[]))):=by
    unfold cNe
    rw [if_pos (by simp [dep,deps_i,deps]),deq,deqs_ints]
  exact this
theorem atI_intsL {l:List Int} (h:l ≠ []):atI (l.map D.int) (-1)=some (.int (co l (l.length - 1))):=by
  have hl:=List.length_pos_iff.mpr h
  rw [atI_last,List.getLast?_eq_getElem?,List.getElem?_map]
  simp only [List.length_map]
  rw [List.getElem?_eq_getElem (by (clear h; omega)),getD_lt (by (clear h; omega))]; rfl
theorem cut_take {α:Type} (l:List α) (n:Nat):cutD l none (some (n:Int))=l.take n:=by
  unfold cutD
  simp only [HT.sIx]
  rw [if_neg (by omega),List.drop_zero,Nat.sub_zero,Int.toNat_natCast]
  rcases Nat.le_total n l.length with c | c
  · rw [Nat.min_eq_left c]
  · rw [Nat.min_eq_right c,List.take_of_length_le (Nat.le_refl _),List.take_of_length_le c]
theorem rep0 (n:Nat):(List.replicate n [D.int 0]).flatten=(List.replicate n (0:Int)).map D.int:=by
  induction n with
  | zero=>rfl
  | succ n ih=>simp [List.replicate_succ,ih]
theorem while_t {c:DS→M Bool} {b:DS→Option Fl} {n:Nat} {S S2:DS} (h1:c S=some (.ok true)) (h2:b S=some (.next S2)):whileD c b (n + 1) S=whileD c b n S2:=by
  rw [whileD,h1]
  simp only
  rw [h2]
theorem while_f {c:DS→M Bool} {b:DS→Option Fl} {n:Nat} {S:DS} (h1:c S=some (.ok false)):whileD c b (n + 1) S=some (.next S):=by
  rw [whileD,h1]
theorem top_take {l:List Int} {n:Nat} (h:n ≤ l.length) (h':n=0∨co l (n - 1) ≠ 0):Top (l.take n):=by
  rcases h' with rfl | h'
  · simp [Top]
  · intro e
    rw [List.getLast?_eq_getElem?] at e
    rcases Nat.eq_zero_or_pos n with z | z
    · subst z; simp at e
    · have e1:(l.take n).length - 1=n - 1:=by simp; (clear z e h'; omega)
      rw [e1,List.getElem?_take_of_lt (by (clear e1 e h' h; omega)),List.getElem?_eq_getElem (by (clear e1 e h'; omega))] at e
      rw [getD_lt (by (clear e1 e h'; omega))] at h'
      exact h' (by simpa using e)
end
end PF
set_option Elab.async false
set_option linter.all false
set_option maxRecDepth 100000
set_option maxHeartbeats 4000000
namespace PF
open PySem L2 PA
@[simp] theorem dEnum_tup {S:DS} {f:DS→M VR} {l:List Int} (h:f S=some (.ok (.ok (tupZ l)))):dEnum f S=some (.ok (enumD (l.map D.int))):=by
  unfold dEnum; rw [h]; rfl
@[simp] theorem uLen_Z (l:List Int):uLen (tupZ l)=some (.int l.length):=by simp [tupZ]
@[simp] theorem noList_Z (l:List Int):noList (tupZ l)=true:=by simp [tupZ]
@[simp] theorem opIx_Z (l:List Int) (i:Int):opIx (tupZ l) (.int i)=atI (l.map D.int) i:=rfl
@[simp] theorem items_Z (l:List Int):items (.ok (tupZ l))=some (l.map D.int):=rfl
@[simp] theorem opMax_e (i j:Int):opMax (.int i) (.int j)=some (.int (if j > i then j else i)):=rfl
@[simp] theorem dEnum_e {S:DS} {f:DS→M VR}:dEnum f S=mb (f S) fun r=>match items r with
  | some l=>some (.ok (enumD l))
  | none=>none:=rfl
@[simp] theorem dPop_e {S:DS} (i:Nat):dPop i S=match S[i]? with
  | some (some (.own l))=>if l.length=0 then none else some (.next (S.set i (some (.own l.dropLast))))
  | _=>none:=rfl
@[simp] theorem asL_Z (l:List Int):asL (tupZ l)=some (.ok (l.map D.int)):=rfl
@[simp] theorem uTup_Z (l:List Int):uTup (tupZ l)=some (tupZ l):=rfl
section
variable {q:Nat} [NeZero q]
end
end PF
set_option Elab.async false
set_option linter.all false
set_option maxRecDepth 100000
set_option maxHeartbeats 4000000
namespace PF
open PySem L2 PA
section
variable {q:Nat} [NeZero q]
theorem downD_get {lo hi:Int} {k:Nat} {d:D} (h:(downD lo hi)[k]?=some d):d=.int (lo - k)∧(k:Int) < lo - hi:=by
  unfold downD at h
  rw [List.getElem?_map] at h
  cases z:(List.range (lo - hi).toNat)[k]? with
  | none=>rw [z] at h; cases h
  | some j=>
    rw [z] at h
    obtain ⟨h1,h2⟩:=List.getElem?_eq_some_iff.mp z
    rw [List.getElem_range] at h2
    rw [List.length_range] at h1
    subst h2
    simp at h
    exact ⟨h.symm,by (clear h z; omega)⟩
theorem downD_len (lo hi:Int):(downD lo hi).length=(lo - hi).toNat:=by simp [downD]
end
end PF
set_option Elab.async false
set_option linter.all false
set_option maxRecDepth 100000
set_option maxHeartbeats 4000000
namespace PF
open PySem L2 PA
section
variable {q:Nat} [NeZero q]
end
end PF
set_option Elab.async false
set_option linter.all false
set_option maxRecDepth 100000
set_option maxHeartbeats 4000000
namespace PF
open PySem L2 PA
section
variable {q:Nat} [NeZero q]
noncomputable def Pl (f:Ser (Fin q)):Prop:=∃ n,Bd f n
theorem Pl.zero:Pl (0:Ser (Fin q)):=⟨0,Bd.zero _⟩
theorem Pl.one:Pl (1:Ser (Fin q)):=⟨1,by rw [← mn_one]; exact Bd.mn 1 0⟩
theorem Pl.mn (a:Fin q) (k:Nat):Pl (mn a k):=⟨_,Bd.mn a k⟩
end
end PF
set_option Elab.async false
set_option linter.all false
set_option maxRecDepth 100000
set_option maxHeartbeats 4000000
namespace PF
open PySem L2 PA
section
variable {q:Nat} [NeZero q]
theorem Sm.nil:Sm q []:=⟨fun x h=>by simp at h,by simp [Top]⟩
theorem Sm.one (h:2 ≤ q):Sm q [1]:=⟨fun x hx=>by simp at hx; subst hx; omega,by simp [Top]⟩
theorem isLong_Sm {l:List Int} (h:Sm q l):isLong q (tupZ l)=true:=by
  unfold isLong tupZ
  simp only [Bool.and_eq_true,Bool.or_eq_true,List.all_eq_true]
  refine ⟨fun d hd=>?_,?_⟩
  · obtain ⟨i,hi,rfl⟩:=List.mem_map.mp hd
    have:=h.1 i hi
    simp [isNum,this.1,this.2]
  · by_cases c:l=[]
    · subst c; simp
    · right
      rw [List.getLast?_eq_getElem?,List.getElem?_map]
      have l0:=List.length_pos_iff.mpr c
      simp only [List.length_map]
      rw [List.getElem?_eq_getElem (by (clear c h; omega))]
      have:=h.2.last c
      rw [getD_lt (by (clear this c h; omega))] at this
      simp [this]
theorem Fine_Z {l:List Int} (h:l.length ≤ 1000):Fine (tupZ l):=((Flat.ints h).fine (Nat.le_refl _)).1
end
end PF
set_option Elab.async false
set_option linter.all false
set_option maxRecDepth 100000
set_option maxHeartbeats 4000000
namespace PF
open PySem L2 PA
theorem clock_nat {p:Int} (hp:Clock p):∃ q:Nat,p=q∧2 ≤ q∧q ≤ 5:=by
  rcases hp with rfl | rfl | rfl
  · exact ⟨2,rfl,by decide,by decide⟩
  · exact ⟨3,rfl,by decide,by decide⟩
  · exact ⟨5,rfl,by decide,by decide⟩
@[simp] theorem sliceZ (l:List Int) (n:Nat):sliceD (tupZ l) none (some (n:Int))=some (tupZ (l.take n)):=by
  show some (D.tup (cutD (l.map D.int) none (some (n:Int))))=_
  rw [cut_take]; simp [tupZ]
@[simp] theorem opAddZ (a b:List Int):opAdd (tupZ a) (tupZ b)=if a.length + b.length ≤ 100000 then some (tupZ (a ++ b)) else none:=by
  unfold tupZ; simp
theorem Sm.snoc {q:Nat} {l:List Int} (h:Red q l) {x:Int} (hx:0 < x∧x < q):Sm q (l ++ [x]):=⟨h.snoc ⟨by (clear h; omega),hx.2⟩,by simp [Top]; (clear h; omega)⟩
theorem Red.take {p:Int} {l:List Int} (h:Red p l) (n:Nat):Red p (l.take n):=fun x hx=>h x (List.mem_of_mem_take hx)
theorem seq_next {g h:DS→Option Fl} {S S':DS} (e:g S=some (.next S')):dSeq g h S=h S':=by rw [dSeq_e,e]
theorem tupZ_nil:D.tup []=tupZ []:=rfl
end PF
namespace K20
open PySem L2 PF PA
end K20
set_option Elab.async false
set_option linter.all false
set_option maxRecDepth 100000
set_option maxHeartbeats 4000000
namespace PF
open PySem L2 PA
section
variable {q:Nat} [NeZero q]
end
end PF
set_option Elab.async false
set_option linter.all false
set_option maxRecDepth 100000
set_option maxHeartbeats 4000000
namespace PF
open PySem L2 PA
theorem try_ok {i:Nat} {f:DS→M VR} {g:Nat→Option D} {S:DS} {d:D} (h:f S=some (.ok (.ok d))):dTry (dSet i f) g S=some (.next (S.set i (some (.val d)))):=by
  unfold dTry dSet; rw [h]; rfl
theorem try_ex {i:Nat} {f:DS→M VR} {g:Nat→Option D} {S:DS} {k:Nat} {d:D} (h:f S=some (.error k)) (hg:g k=some d):dTry (dSet i f) g S=some (.ret d):=by
  unfold dTry dSet; rw [h]; simp [liftE,hg]
@[simp] theorem atI2_0 {α:Type} (x y:α):atI [x,y] 0=some x:=rfl
@[simp] theorem atI2_1 {α:Type} (x y:α):atI [x,y] 1=some y:=rfl
@[simp] theorem atI3_0 {α:Type} (x y z:α):atI [x,y,z] 0=some x:=rfl
@[simp] theorem atI3_1 {α:Type} (x y z:α):atI [x,y,z] 1=some y:=rfl
@[simp] theorem atI3_2 {α:Type} (x y z:α):atI [x,y,z] 2=some z:=rfl
@[simp] theorem uIsN_non:uIsN .non=some (.bl true):=rfl
@[simp] theorem uIsN_tup (l:List D):uIsN (.tup l)=some (.bl false):=rfl
@[simp] theorem uIsN_tupZ (l:List Int):uIsN (tupZ l)=some (.bl false):=rfl
@[simp] theorem uIsN_int (i:Int):uIsN (.int i)=some (.bl false):=rfl
@[simp] theorem deq_tupZ (a b:List Int):deq (tupZ a) (tupZ b)=decide (a=b):=by unfold tupZ; rw [deq,deqs_ints]
@[simp] theorem dep_tupZ (a:List Int):dep (tupZ a)=1:=by unfold tupZ; simp [dep,deps_i]
end PF
set_option Elab.async false
set_option linter.all false
set_option maxRecDepth 100000
set_option maxHeartbeats 4000000
namespace PF
open PySem PySem.Spec PySem.W L2
open PyProof.Rows hiding St InstAt
theorem note_same {M:Model} {A:Around} {E:Value→Shared→Prop} {s:Shared} {env:Env} {L e C T:Addr} {Q:Unit→Shared→Prop} (hf:env.frame=some L) (x:IsExc s.heap e C T (rawInt L)) (h:Q () s):wpAny M A (noteFrame (.ref e) env) Q E s:=by
  obtain ⟨oe,vs,oT,ts,he,hc,hd,h1,hT,hdT,h3,ne⟩:=x
  unfold noteFrame; simp only [hf]
  refine wpAny_bind (wpAny_field he hd h1 ?_)
  rw [if_pos (show (Value.ref T != Value.none)=true from by simp)]
  refine wpAny_bind (wpAny_field hT hdT h3 ?_)
  rw [if_pos (by simp)]
  exact wpAny_pure h
section
variable {X:Cx}
structure Xat (X:Cx) (a:Addr) (H1 H':Hp) (s1 s':Shared):Prop where
  os:s'.os=s1.os
  bare:AllBare s'.gens
  un:Un (frs X.stack) [] H1 H' s1.heap s'.heap
  hok:HOk X.prog X.w H' s'.heap
  na:s1.heap.get? a=none
  fa:H' a=none
noncomputable def XS (X:Cx) (xq:Addr→Hp→Prop):Value→Shared→Prop:=fun e s'=>∃ (a:Addr) (k:Nat) (C:Addr) (σ:St) (H1 H':Hp) (s1:Shared),e=.ref a∧Inv X.nox [] σ H1 s1∧nsIn X.K mainGlobals (exN k)=some (some (.ref C))∧xq k H'∧Xat X a H1 H' s1 s'∧
  ((∃ oe vs,s'.heap.get? a=some oe∧(oe.cls=.ref C∧oe.dict=none)∧oe.data=.fields vs∧vs[1]?=some .none)∨∃ T fl,IsExc s'.heap a C T fl∧(fl=.none∨∃ L,X.env.frame=some L∧fl=rawInt L)∧s1.heap.get? T=none∧H' T=none)
theorem Xat.inv {a:Addr} {σ:St} {H1 H':Hp} {s1 s':Shared} (I:Inv X.nox [] σ H1 s1) (x:Xat X a H1 H' s1 s'):Inv X.nox [] σ H' s':=I.call' x.os x.un x.hok x.bare (fun b z=>absurd z (by simp))
theorem Xat.moved {a T:Addr} {σ:St} {H1 H':Hp} {s1 s':Shared} {h2:Heap} (I:Inv X.nox [] σ H1 s1) (x:Xat X a H1 H' s1 s') (nT:s1.heap.get? T=none) (fT:H' T=none) (k1:∀ b o,b ∉ frs X.stack→b ≠ a→b ≠ T→s'.heap.get? b=some o→h2.get? b=some o) (k2:∀ b o,b ≠ a→b ≠ T→s'.heap.get? b=some o→∃ sl,h2.get? b=some { o with slots:=sl }):Xat X a H1 H' s1 { s' with heap:=h2 }:=
  ⟨x.os,x.bare,un_noted x.un x.na nT k1 k2,hok_noted x.hok x.fa fT (x.inv I).stkFree k1,x.na,x.fa⟩
theorem Xat.old {a T:Addr} {H1 H':Hp} {s1 s':Shared} (x:Xat X a H1 H' s1 s') (h:s'.heap.objs.size ≤ T):s1.heap.get? T=none∧H' T=none:=by
  have n:s'.heap.get? T=none:=by
    cases z:s'.heap.get? T with
    | none=>rfl
    | some o=>exact absurd (Nat.lt_of_lt_of_le (Heap.lt_size z) h) (Nat.lt_irrefl _)
  refine ⟨?_,hok_none x.hok n⟩
  cases z:s1.heap.get? T with
  | none=>rfl
  | some o=>
    obtain ⟨o',e⟩:=x.un.there T o z (by simp)
    rw [n] at e; cases e
theorem xs_note {xq:Addr→Hp→Prop} {E:Value→Shared→Prop} {Q:Unit→Shared→Prop} {e:Value} {s':Shared} {L:Addr} (hstk:X.stack=X.env :: X.outer) (hfrm:X.env.frame=some L) (h:XS X xq e s')
    (hq:∀ (a:Addr) (k:Nat) (C T:Addr) (σ:St) (H1 H':Hp) (s1:Shared) (h2:Heap),e=.ref a→Inv X.nox [] σ H1 s1→nsIn X.K mainGlobals (exN k)=some (some (.ref C))→xq k H'→Xat X a H1 H' s1 { s' with heap:=h2 }→IsExc h2 a C T (rawInt L)→s1.heap.get? T=none→H' T=none→Q () { s' with heap:=h2 }) :
    wpAny (model X.prog X.w) X.A (noteFrame e X.env) Q E s':=by
  obtain ⟨a,k,C,σ,H1,H',s1,rfl,I,hns,q,x,st⟩:=h
  have I':=x.inv I
  have fr:X.A.frames=some (X.env :: X.outer):=by rw [← hstk]; exact I.ok.frames
  have sk:s'.heap.FunFrames X.base (X.env :: X.outer):=by
    have z:s'.heap.FunFrames X.base X.stack:=I'.stack
    rw [hstk] at z; exact z
  rcases st with ⟨oe,vs,he,hc,hd,h1⟩ | ⟨T,fl,ix,hfl,nT,fT⟩
  · refine note_new fr sk hfrm he hc hd h1 fun h2 T a1 a2 a3 ix2=>?_
    obtain ⟨nT,fT⟩:=x.old a1
    exact hq a k C T σ H1 H' s1 h2 rfl I hns q (x.moved I nT fT (fun b o n1 n2 _ z=>a2 b o (by rw [hstk] at n1; exact n1) n2 z) (fun b o n2 _ z=>a3 b o n2 z)) ix2 nT fT
  · rcases hfl with rfl | ⟨L',hL',rfl⟩
    · refine note_next fr sk hfrm ix fun h2 T2 a1 a2 a3 ix2=>?_
      obtain ⟨nT2,fT2⟩:=x.old a1
      exact hq a k C T2 σ H1 H' s1 h2 rfl I hns q (x.moved I nT fT (fun b o n1 n2 n3 z=>a2 b o (by rw [hstk] at n1; exact n1) n2 n3 z) (fun b o n2 n3 z=>a3 b o n2 n3 z)) ix2 nT2 fT2
    · rw [hfrm] at hL'
      have:=Option.some.inj hL'
      subst this
      exact note_same hfrm ix (hq a k C T σ H1 H' s1 s'.heap rfl I hns q x ix nT fT)
theorem xs_flight {a C T:Addr} {σ:St} {H1 H':Hp} {s1 s':Shared} {fl:Value} {fr:Option Addr} {E:Value→Shared→Prop} {Q:Unit→Shared→Prop} (I:Inv X.nox [] σ H1 s1) (x:Xat X a H1 H' s1 s') (ix:IsExc s'.heap a C T fl) (nT:s1.heap.get? T=none) (fT:H' T=none)
    (h:∀ h2,Xat X a H1 H' s1 { s' with heap:=h2 }→IsExc h2 a C T (fr.elim .none fun f=>rawInt f)→Q () { s' with heap:=h2 }):wpAny (model X.prog X.w) X.A (setFlight (.ref a) fr) Q E s':=
  flight_ok ix fun h2 sb ix2=>h h2 (x.moved I nT fT (fun b o _ _ n3 z=>by rw [sb.2 b n3]; exact z) (fun b o _ n3 z=>⟨o.slots,by rw [sb.2 b n3]; exact z⟩)) ix2
theorem xs_passes {xq:Addr→Hp→Prop} {L:Addr} (hstk:X.stack=X.env :: X.outer) (hfrm:X.env.frame=some L):PassesOwn (model X.prog X.w) X.A X.env (XS X xq):=fun e s' h=>by
  refine xs_note hstk hfrm h fun a k C T σ H1 H' s1 h2 ee I hns q x ix nT fT=>?_
  subst ee
  unfold cameBackBy
  obtain ⟨oe,vs,oT,ts,he,hc,hd,h1,hT,hdT,h3,ne⟩:=id ix
  refine wpAny_bind (wpAny_field he hd h1 ?_)
  rw [if_neg (by simp)]
  rw [hfrm]
  exact xs_flight (fr:=some L) I x ix nT fT fun h4 x4 ix4=>⟨a,k,C,σ,H1,H',s1,rfl,I,hns,q,x4,.inr ⟨T,_,ix4,.inr ⟨L,hfrm,rfl⟩,nT,fT⟩⟩
theorem xs_call {xq:Addr→Hp→Prop}:Passes (CXE X.K X.prog X.w) (X.wish (XS X xq)) (Ex xq):=fun pins σ H s e s' I c=>by
  obtain ⟨a,k,C,T,H',rfl,hos,bare,un,hok,hns,ix,na,nT,fa,fT,k',ek,q⟩:=c
  have ek':k=k':=by injection ek
  subst ek'
  have I0:Inv X.nox [] σ H s:=(I.unwish.wish fun _ _=>False).pins_of fun p hp=>I.pin p (List.mem_append_left _ (by simpa using hp))
  exact ⟨a,k,C,σ,H,H',s,rfl,I0,hns,q,⟨hos,bare,un,hok,na,fa⟩,.inr ⟨T,.none,ix,.inl rfl,nT,fT⟩⟩
theorem ds_raisel (k:Nat) {C:Addr} {x:Str} {np cpos pos:Pos} {e:Expr} {fe:DS→M VR} {F0 H0:Hp} {xq:Addr→Hp→Prop} (hh:X.A.handled=none) (hns:nsIn X.K mainGlobals (exN k)=some (some (.ref C))) (hexc:excIn X.K C vb "ValueError.__new__" = true) (hm:X.mg x=some (.ref C))
    (hg:Gl (X.wish (XS X xq)) x) (he:DE (X.wish (XS X xq)) F0 H0 xq e fe) {d:VR} (hd:∀ S,fe S=some (.ok d)) (hdb:(x == ("__debug__" : Str))=false:=by decide)
    (hs:starEach [e] X.env=(false,eval e X.env) :: starEach [] X.env:=by rfl) :
    DS1 (X.wish (XS X xq)) F0 H0 xq (.Raise (some (.Call (.Name x np) [e] [] cpos)) none pos) (fun _=>some (.ex k)):=.mk fun pins s1 σ H1 Dn I q=>by
  obtain ⟨F,S,sk,o⟩:=q
  refine ps_raise (X:=X.wish (XS X xq)) (R:=fun H'=>xq k H') hh hg hm hexc he.h (fun pins' σ' H' s' us h' a I' r hm'=>?_) hdb hs pins s1 σ H1 Dn I ?_
  · have I0:Inv X.nox [] σ' H' s':=(I'.unwish.wish fun _ _=>False).pins_of fun p hp=>I'.pin p (List.mem_append_left _ (by simpa using hp))
    obtain ⟨t,he',_,_⟩:=hm'.there
    have fa:=hok_none I'.hok hm'.new
    refine ⟨a,k,C,σ',H',H',s',rfl,I0,hns,r,⟨rfl,I'.bare,Un.kept fun b u z=>hm'.keeps b u z,HOk.kept I'.hok fun b u z=>hm'.keeps b u z,hm'.new,fa⟩,.inl ⟨_,_,he',⟨rfl,rfl⟩,rfl,by rfl⟩⟩
  · refine ⟨F,S,sk,?_⟩
    rw [hd S]
    exact fun v F' H' ex _=>o H' (sk.ext.hh.trans ex.hh)
theorem dss_wish {F0 H0:Hp} {xq:Addr→Hp→Prop} {E':Value→Shared→Prop} {st:List Stmt} {g:DS→Option Fl} (h:DSs (X.wish E') F0 H0 xq st g) (hx:∀ e s',E' e s'→X.xe e s'):DSs X F0 H0 xq st g:=.mk fun pins s σ H Dn I q=>
  wpAny_mono (h.h pins s σ H Dn (I.wish E') q) (fun _ _ z=>z.unwish) hx
end
section
variable {P:Program} {w:World} {K:PySem.W.Frag} {mg:Str→Option Value} {base:Heap} {N:List Str} {qual:Str} {scope:Scope} {f:Addr} {cdv:Value} {A:Around} {outer:List Env} {s:Shared} {H:Hp} {E:XK}
theorem xs_leave {e:Value} {s':Shared} (h:XS (cxOf (CXE K P w) P w K mg base N qual scope f cdv A outer s H E) (fun c H'=>E (.ref c) none H') e s'):(cxOf (CXE K P w) P w K mg base N qual scope f cdv A outer s H E).xe e s':=by
  show wpAny _ _ (leaving _ _) _ _ _
  unfold leaving
  refine wpAny_bind (xs_note (X:=cxOf (CXE K P w) P w K mg base N qual scope f cdv A outer s H E) rfl rfl h fun a k C T σ H1 H' s1 h2 ee I hns q x ix nT fT=>?_)
  subst ee
  refine xs_flight (X:=cxOf (CXE K P w) P w K mg base N qual scope f cdv A outer s H E) (fr:=none) I x ix nT fT fun h3 x3 ix3=>?_
  have I3:=x3.inv I
  have new:∀ b,s1.heap.get? b=none→s.heap.get? b=none:=fun b z=>by
    cases y:s.heap.get? b with
    | none=>rfl
    | some o=>
      obtain ⟨o',e'⟩:=I.base.there b o y (by intro q; exact nomatch q)
      rw [z] at e'; cases e'
  exact ⟨a,k,C,T,H',rfl,I3.os,I3.bare,I3.base,I3.hok,hns,ix3,new a x3.na,new T nT,x3.fa,fT,q⟩
end
end PF
set_option Elab.async false
set_option linter.all false
set_option maxRecDepth 100000
set_option maxHeartbeats 4000000
namespace PF
open PySem PySem.Spec L2
open PyProof.Rows hiding St
noncomputable def Itvl (K:PySem.W.Frag) (a:Addr) (n:Nat):It:=
  ⟨fun i H=>∃ xs,SqL K H a xs∧xs.length=n∧i < n,fun i H x H'=>H'=H∧∀ xs,SqL K H a xs→xs[n - 1 - i]?=some x,fun i H=>∃ xs,SqL K H a xs∧xs.length=n∧n ≤ i⟩
theorem turn_rvl {P:Program} {w:World} {K:PySem.W.Frag} {tg:Expr} (a it:Addr) (n:Nat):Turn P w K tg (Itvl K a n) [it] it (fun i h=>i ≤ n∧h.IsRevIter it a ((n:Int) - 1 - (i:Nat))) where
  mem:=by simp
  obj:=fun i h st b hb=>by
    have z:b=it:=by simpa using hb
    subst z
    obtain ⟨o,e,_,d⟩:=st.2
    exact ⟨o,e,fun v z=>by rw [d] at z; cases z⟩
  keep:=fun i h h' st k=>⟨st.1,st.2.at fun o e=>k it (by simp) _ e⟩
  item:=by
    intro X hP hw hK hc i pins s σ H E I hf st hg
    subst hP hw hK
    obtain ⟨xs,hq,hl,hi⟩:=hg
    obtain ⟨its,rv,p,hz⟩:=I.list hq
    have hlen:=rv.length
    have hx:xs[n - 1 - i]?=some (xs[n - 1 - i]'(by (clear hlen hz p rv hq st hf I hc; omega))):=List.getElem?_eq_getElem _
    obtain ⟨u,hu,ru⟩:=rv.get hx
    obtain ⟨f0,f1,f2,f3,f4,f5⟩:=hf it (by simp)
    have e:(n:Int) - 1 - (i:Nat)=((n - 1 - i:Nat):Int):=by (clear f5 f4 f3 f2 f1 f0 ru hu hx hlen hz p rv hl hq st hf I hc; omega)
    have st2:=st.2
    rw [e] at st2
    refine wpAny_pyNext_rev_item (i:=n - 1 - i) st2 p.isList (x:=u) (by simpa using hu) fun h' st' sb=>?_
    have I1:Inv X pins σ H { s with heap:=h' }:=I.turned (t':=s.toks) (fun b o hb e=>(sb.2 b hb).trans e) f0 f1 f3 f4 f5
    have e2:((n - 1 - i:Nat):Int) - 1=(n:Int) - 1 - ((i + 1:Nat):Nat):=by (clear I1 sb st' st2 e f5 f4 f3 f2 f1 f0 ru hu hx hlen hz p rv hl hq st hf I hc; omega)
    obtain ⟨o',ho',hc',hd'⟩:=id st'
    refine ⟨u,rfl,go_of (s:={ s with heap:=h' }) (n := "list_reverseiterator") ho' hc' (by rw [hd']) (by decide) ⟨_,H,I1,ru,⟨rfl,fun ys hy=>by rw [I.list_inj hy hq]; exact hx⟩,⟨hi,by rw [← e2]; exact st'⟩,fun b hb=>(hf b hb).1⟩⟩
  done:=by
    intro X hP hw hK hc i pins s σ H E I hf st hg
    subst hP hw hK
    obtain ⟨xs,hq,hl,hi⟩:=hg
    obtain ⟨f0,f1,f2,f3,f4,f5⟩:=hf it (by simp)
    have e:(n:Int) - 1 - (i:Nat)=-1:=by have:=st.1; (clear f5 f4 f3 f2 f1 f0 hl hq hf I hc; omega)
    have st2:=st.2
    rw [e] at st2
    exact wpAny_pyNext_rev_end (I.ok.hd hc) st2 fun h' eb=>⟨rfl,I.turned (t':=s.toks) (fun b o hb e=>eb b o hb e) f0 f1 f3 f4 f5⟩
  self:=fun _ _ _ _ _ st h=>wpAny_pyIter_revIter st.2 h
theorem ItOk.rvl {K:PySem.W.Frag} {Fb:Hp} {a:Addr} {vs:List V} {ds:List D} (h:SqL K Fb a vs) (r:RepL K Fb ds vs):ItOk K (Itvl K a vs.length) Fb ds.reverse where
  go:=fun i F H hi e1 e2=>⟨vs,(e1.trans e2).seq h,rfl,by rw [← r.length]; simpa using hi⟩
  yld:=fun i F H x H' e1 e2 y d hd=>by
    obtain ⟨rfl,y⟩:=y
    have hl:=r.length
    have hi:i < ds.length:=by
      have:=(List.getElem?_eq_some_iff.mp hd).1
      simpa using this
    rw [List.getElem?_reverse hi,hl] at hd
    obtain ⟨v,q1,q2⟩:=r.get hd
    have:=y vs ((e1.trans e2).seq h)
    rw [q1] at this; cases this
    exact ⟨F,Ext.refl e2,q2.mono e1⟩
  stop:=fun i F H hi e1 e2=>⟨vs,(e1.trans e2).seq h,rfl,by rw [← r.length]; simpa using hi⟩
section
variable {X:Cx} {F0 H0:Hp} {xq:Addr→Hp→Prop} {pos:Pos} {e tg:Expr}
noncomputable def iRvl (K:PySem.W.Frag) (tl:TE):TI:=fun σ H R=>tl σ H fun x H1=>∃ a xs,x=.ref a∧SqL K H1 a xs∧R (Itvl K a xs.length) H1
theorem pi_rvl {tl:TE} {p:Pos} (hg:Gl X "reversed") (hm:X.mg "reversed" = none) (hl:PE X e tl) (hs:unst e=true):PI X tg (.Call (.Name "reversed" p) [e] [] pos) (iRvl X.K tl):=by
  intro pins s σ H R I h
  refine Call_ (ld_blt I hg hm boot_reversed (PyProof.Rows.callWith_type1 (thn (pa_cons hl pa_nil (star_cons hs) pos pins s σ H (fun vs H1=>match vs with
    | [x]=>∃ a xs,x=.ref a∧SqL X.K H1 a xs∧R (Itvl X.K a xs.length) H1
    | _=>False) I h) fun us s1 ⟨vs,H1,I1,r1,q1⟩=>?_) (star_cons hs) rfl))
  match vs,r1,q1 with
  | [_],.cons r .nil,q1=>
    obtain ⟨a,xs,rfl,hq,q⟩:=q1
    cases r
    obtain ⟨its,rv,p,hz⟩:=I1.list hq
    have hlen:=rv.length
    have hst:({ s1 with heap:=s1.heap.push (revObj a ((its.toArray.size:Int) - 1)) }:Shared).heap.IsRevIter s1.heap.objs.size a ((its.toArray.size:Int) - 1):=⟨_,Heap.get?_push_size _ rfl,rfl,rfl⟩
    refine call_reversed_list p.isList (wpAny_pyIter_revIter hst ?_)
    refine ⟨s1.heap.objs.size,[s1.heap.objs.size],_,_,H1,rfl,I1.kept (t':=s1.toks) fun b o e=>Heap.get?_push_of_some _ e,turn_rvl a _ xs.length,⟨Nat.zero_le _,?_⟩,fun b hb=>?_,q⟩
    · have e2:(xs.length:Int) - 1 - ((0:Nat):Nat)=(its.toArray.size:Int) - 1:=by simp; (clear hst hz rv q hq q1 r1 I1 h I hs hl hm hg; omega)
      rw [e2]
      exact hst
    · have z:b=s1.heap.objs.size:=by simpa using hb
      subst z
      exact I1.fpOk (Nat.le_refl _) (I1.hok.fresh (Nat.le_refl _))
noncomputable def revL:VR→Option (List D)
  | .ok (.lst l)=>some l.reverse
  | _=>none
noncomputable def dRevL (f:DS→M VR):DS→M (List D):=fun S=>mb (f S) fun r=>match revL r with
  | some l=>some (.ok l)
  | none=>none
theorem di_revl {p:Pos} {f:DS→M VR} (hg:Gl X "reversed") (hm:X.mg "reversed" = none) (h:DE X F0 H0 xq e f) (hs:unst e=true:=by rfl):DI X F0 H0 xq tg (.Call (.Name "reversed" p) [e] [] pos) (dRevL f):=.mk fun pins s σ H R I q=>by
  refine pi_rvl hg hm h.h hs pins s σ H R I ?_
  obtain ⟨F,S,sk,o⟩:=q
  refine ⟨F,S,sk,outE.bind (G:=fun F H z=>outI X.K xq F H R z) (fun {F H F' H' z} e h=>outI.step e h) (fun _ _ h=>h) (fun _ _ _ h=>h) o fun r v F1 H1 e1 q1 o1=>?_⟩
  cases r with
  | bor l=>exact False.elim o1
  | bod ks l=>exact False.elim o1
  | ok d=>
    cases d with
    | lst l=>
      obtain ⟨a,vs,rfl,ht,rl⟩:=q1
      exact ⟨a,vs,rfl,e1.fh.seq (SqL.of ht),o1 _ F1 H1 (Ext.refl e1.fh) (ItOk.rvl (SqL.of ht) rl)⟩
    | _=>exact False.elim o1
end
section
variable {X:Cx} {F0 H0:Hp} {xq:Addr→Hp→Prop} {a b e:Expr} {fa fb:DS→M VR} {pos p2:Pos}
theorem vals_strs:∀ (l:List (Str × Tok)),Vals ((l.map (·.1)).map V.str) (strValues l)
  | []=>.nil
  | (x,t) :: r=>.cons ⟨t,rfl⟩ (vals_strs r)
noncomputable def splitFit (x y:Str):Bool:=decide (1 ≤ y.length∧x.length ≤ 20000)
noncomputable def rSplit:V→List V→Hp→VK→Prop:=fun v xs H Q=>∃ (x y:Str),v=.str x∧xs=[.str y]∧splitFit x y=true∧∀ p,H p=none→Q (.ref p) (upd H p (.lst ((Txt.split x y).map V.str)))
theorem mt_split:MtR X "str.split" rSplit:=by
  intro pins s σ H x xs v us Q I rx rs h
  obtain ⟨x,y,rfl,rfl,fit,q⟩:=h
  obtain ⟨t,rfl⟩:=rx
  obtain ⟨u,rfl,ru⟩:=vals1 rs
  obtain ⟨u,rfl⟩:=ru
  obtain ⟨f1,f2⟩:=of_decide_eq_true fit
  have hb:20002 ≤ sizeLine:=by decide
  have f3:(Txt.split x y).length ≤ 20002:=Nat.le_trans (PyProof.Rows.split_le x y) (by omega)
  have f4:(Builtin.Str.partsBetween x (Builtin.Str.occurrences x y 0 x.length (x.length + 1)) y.length).length ≤ 20002:=by
    rw [PyProof.Rows.len_partsBetween]
    have:=StrLaws.occ_length_le_len x y 0 x.length (x.length + 1)
    omega
  have fin:∀ (l:List (Str × Tok)) (t':Nat),l.map (·.1)=Txt.split x y→EP X pins σ Q (.ref s.heap.objs.size) { s with heap:=s.heap.push { cls:=.type "list",data:=.seq (strValues l).toArray },toks:=t' }:=fun l t' e=>by
    have I2:=I.lnew (ys:=(Txt.split x y).map V.str) (its:=strValues l) (t':=t') (by rw [← e]; exact vals_strs l) (by rw [List.length_map]; exact Nat.le_trans f3 hb)
    exact ⟨.ref _,_,I2,rfl,q _ I.fresh⟩
  have hy:(y.length == 0)=false:=by simp; intro z; rw [z] at f1; exact absurd f1 (by decide)
  cases h1:(decide (x.length < y.length) || decide (Builtin.Str.strKind x < Builtin.Str.strKind y))
  · cases hf:(Builtin.Str.occurrences x y 0 x.length (x.length + 1)).isEmpty
    · refine call_meets F.slot_str_split (typeIs_str _ _ _) F.entry_str_split (F.args_str_split_2 _ _) (meets_str_split_sep x y t u h1 hy hf (Nat.le_trans f2 (by decide)) (Nat.le_trans f4 hb)) ?_
      show wants (EP X pins σ Q) X.xe _ { s with toks:=_,heap:=s.heap.push { cls:=.type "list",data:=.seq (strsFrom s.toks (Builtin.Str.partsBetween x (Builtin.Str.occurrences x y 0 x.length (x.length + 1)) y.length)).toArray } }
      rw [strsFrom_eq]
      exact fin (numbered s.toks _) _ ((numbered_texts _ _).trans ((if_neg (ne_true_of_eq_false h1)).trans (if_neg (ne_true_of_eq_false hf))).symm)
    · exact call_meets F.slot_str_split (typeIs_str _ _ _) F.entry_str_split (F.args_str_split_2 _ _) (meets_str_split_not_found x y t u h1 hy hf)
        (fin [(x,t)] s.toks ((if_neg (ne_true_of_eq_false h1)).trans (if_pos hf)).symm)
  · exact call_meets F.slot_str_split (typeIs_str _ _ _) F.entry_str_split (F.args_str_split_2 _ _) (meets_str_split_cannot_occur x y t u h1)
      (fin [(x,t)] s.toks (if_pos h1).symm)
noncomputable def dMtS {β:Type} (op:Str→Str→M β) (fa fb:DS→M VR):DS→M β:=fun S=>mb (fa S) fun r1=>match toD r1 with
  | .str x=>mb (fb S) fun r2=>match toD r2 with
    | .str y=>op x y
    | _=>none
  | _=>none
noncomputable def opSplit (x y:Str):M (List D):=if splitFit x y=true then some (.ok ((Txt.split x y).map D.str)) else none
theorem repL_strs {K:PySem.W.Frag} {F:Hp}:∀ (l:List Str),RepL K F (l.map D.str) (l.map V.str)
  | []=>rfl
  | x :: l=>⟨_,_,rfl,rfl,repL_strs l⟩
theorem df_split {apos cpos:Pos} (ha:DE X F0 H0 xq a fa) (hb:DE X F0 H0 xq b fb) (hbase:attributeBase a "split" X.env (eval a X.env)=eval a X.env:=by rfl)
    (hfew:((backTo cpos (starEach [b] X.env)).all (fun x=>!x.1) && (backToKw cpos (keywordEach [] X.env)).all (fun x=>x.1.isSome) && decide (([b]:List Expr).length + ([]:List Keyword).length + (if ([]:List Keyword).isEmpty then 0 else 1) < 30))=true:=by rfl)
    (hline:(apos.endLine == cpos.line)=true:=by rfl) (hs:starEach [b] X.env=(false,eval b X.env) :: starEach [] X.env:=by rfl) :
    DF X F0 H0 xq (.Call (.Attribute a "split" apos) [b] [] cpos) (dMtS opSplit fa fb):=.mk fun pins s σ H Q I q=>by
  refine pe_bm PySem.F.plainAttrs_str PySem.F.slot_str_split PySem.F.type_str_split mt_split ha.h (pa_cons hb.h pa_nil hs) hbase hfew hline hs rfl pins s σ H Q I ?_
  obtain ⟨F,S,sk,o⟩:=q
  refine ⟨F,S,sk,outE.mbF o fun r v F1 H1 e1 q1 o1=>?_⟩
  have rv:=RR.rv e1.fh q1
  generalize toD r=d at rv o1
  cases d <;> first | (exact False.elim o1) | skip
  rename_i z
  have hv:v=.str z:=rv
  subst hv
  refine ⟨rfl,F1,S,sk.step e1,outE.mbF o1 fun r2 v2 F2 H2 e2 q2 o2=>?_⟩
  have rv2:=RR.rv e2.fh q2
  generalize toD r2=d2 at rv2 o2
  cases d2 <;> first | (exact False.elim o2) | skip
  rename_i y
  have hv2:v2=.str y:=rv2
  subst hv2
  have o3:outF X.K xq F2 H2 Q (if splitFit z y=true then some (.ok ((Txt.split z y).map D.str)) else none):=o2
  by_cases fit:splitFit z y=true
  · rw [if_pos fit] at o3
    exact ⟨z,y,rfl,rfl,fit,fun p hp=>o3 p _ F2 _ (ext_own e2.fh hp) hp (e2.fh.free hp) upd_same (repL_strs _)⟩
  · rw [if_neg fit] at o3
    exact False.elim o3
noncomputable def rFind:V→List V→Hp→VK→Prop:=fun v xs H Q=>∃ (x y:Str),v=.str x∧xs=[.str y]∧Q (.int (Txt.find x y)) H
theorem mt_find:MtR X "str.find" rFind:=by
  intro pins s σ H x xs v us Q I rx rs h
  obtain ⟨x,y,rfl,rfl,q⟩:=h
  obtain ⟨t,rfl⟩:=rx
  obtain ⟨u,rfl,ru⟩:=vals1 rs
  obtain ⟨u,rfl⟩:=ru
  exact SC.find ⟨.int _,H,I.tok _,⟨_,rfl⟩,q⟩
noncomputable def opFind (x y:Str):M VR:=some (.ok (.ok (.int (Txt.find x y))))
noncomputable def rPart:V→List V→Hp→VK→Prop:=fun v xs H Q=>∃ (x y:Str),v=.str x∧xs=[.str y]∧1 ≤ y.length∧x.length ≤ 20000∧∀ p,H p=none→Q (.ref p) (upd H p (.tup [.str (Txt.partition x y).1,.str (Txt.partition x y).2.1,.str (Txt.partition x y).2.2]))
theorem mt_part:MtR X "str.partition" rPart:=by
  intro pins s σ H x xs v us Q I rx rs h
  obtain ⟨x,y,rfl,rfl,f1,f2,q⟩:=h
  obtain ⟨t,rfl⟩:=rx
  obtain ⟨u,rfl,ru⟩:=vals1 rs
  obtain ⟨u,rfl⟩:=ru
  have hy:(y.length == 0)=false:=by simp; intro z; rw [z] at f1; exact absurd f1 (by decide)
  have fin:∀ (ta tb tc:Tok) (t':Nat),EP X pins σ Q (.ref s.heap.objs.size) { s with heap:=s.heap.push { cls:=.type "tuple",data:=.seq [.str (Txt.partition x y).1 ta,.str (Txt.partition x y).2.1 tb,.str (Txt.partition x y).2.2 tc].toArray },toks:=t' }:=fun ta tb tc t'=>by
    have I2:Inv X pins σ (upd H s.heap.objs.size (.tup [.str (Txt.partition x y).1,.str (Txt.partition x y).2.1,.str (Txt.partition x y).2.2])) { s with heap:=s.heap.push { cls:=.type "tuple",data:=.seq [.str (Txt.partition x y).1 ta,.str (Txt.partition x y).2.1 tb,.str (Txt.partition x y).2.2 tc].toArray },toks:=t' }:=
      I.laid (t':=t') (fun b o e=>Heap.get?_push_of_some _ e) (Nat.le_refl _) (show ObjOk X.prog X.w _ _ _ (.tup _) from ⟨by show 3 ≤ sizeLine; decide,[.str (Txt.partition x y).1 ta,.str (Txt.partition x y).2.1 tb,.str (Txt.partition x y).2.2 tc],.cons ⟨_,rfl⟩ (.cons ⟨_,rfl⟩ (.cons ⟨_,rfl⟩ .nil)),IsTup.new _ _⟩)
    exact ⟨.ref _,_,I2,rfl,q _ I.fresh⟩
  refine call_meets F.slot_str_partition (typeIs_str _ _ _) F.entry_str_partition (F.args_str_partition_2 _ _) (meets_str_partition x y t u hy (Nat.le_trans f2 (by decide))) ?_
  unfold Txt.partition at fin
  revert fin
  cases Builtin.Str.occurrences x y 0 x.length 1 with
  | nil=>intro fin; exact fin _ _ _ _
  | cons i r=>intro fin; exact fin _ _ _ _
noncomputable def opPart (x y:Str):M VR:=if 1 ≤ y.length∧x.length ≤ 20000 then some (.ok (.ok (.tup [.str (Txt.partition x y).1,.str (Txt.partition x y).2.1,.str (Txt.partition x y).2.2]))) else none
theorem de_find {apos cpos:Pos} (ha:DE X F0 H0 xq a fa) (hb:DE X F0 H0 xq b fb) (hbase:attributeBase a "find" X.env (eval a X.env)=eval a X.env:=by rfl)
    (hfew:((backTo cpos (starEach [b] X.env)).all (fun x=>!x.1) && (backToKw cpos (keywordEach [] X.env)).all (fun x=>x.1.isSome) && decide (([b]:List Expr).length + ([]:List Keyword).length + (if ([]:List Keyword).isEmpty then 0 else 1) < 30))=true:=by rfl)
    (hline:(apos.endLine == cpos.line)=true:=by rfl) (hs:starEach [b] X.env=(false,eval b X.env) :: starEach [] X.env:=by rfl) :
    DE X F0 H0 xq (.Call (.Attribute a "find" apos) [b] [] cpos) (dMtS opFind fa fb):=.mk fun pins s σ H Q I q=>by
  refine pe_bm PySem.F.plainAttrs_str PySem.F.slot_str_find PySem.F.type_str_find mt_find ha.h (pa_cons hb.h pa_nil hs) hbase hfew hline hs rfl pins s σ H Q I ?_
  obtain ⟨F,S,sk,o⟩:=q
  refine ⟨F,S,sk,outE.mb o fun r v F1 H1 e1 q1 o1=>?_⟩
  have rv:=RR.rv e1.fh q1
  generalize toD r=d at rv o1
  cases d <;> first | (exact False.elim o1) | skip
  rename_i z
  have hv:v=.str z:=rv
  subst hv
  refine ⟨rfl,F1,S,sk.step e1,outE.mb o1 fun r2 v2 F2 H2 e2 q2 o2=>?_⟩
  have rv2:=RR.rv e2.fh q2
  generalize toD r2=d2 at rv2 o2
  cases d2 <;> first | (exact False.elim o2) | skip
  rename_i y
  have hv2:v2=.str y:=rv2
  subst hv2
  exact ⟨z,y,rfl,rfl,o2 _ F2 H2 (Ext.refl e2.fh) rfl⟩
theorem de_part {apos cpos:Pos} (ha:DE X F0 H0 xq a fa) (hb:DE X F0 H0 xq b fb) (hbase:attributeBase a "partition" X.env (eval a X.env)=eval a X.env:=by rfl)
    (hfew:((backTo cpos (starEach [b] X.env)).all (fun x=>!x.1) && (backToKw cpos (keywordEach [] X.env)).all (fun x=>x.1.isSome) && decide (([b]:List Expr).length + ([]:List Keyword).length + (if ([]:List Keyword).isEmpty then 0 else 1) < 30))=true:=by rfl)
    (hline:(apos.endLine == cpos.line)=true:=by rfl) (hs:starEach [b] X.env=(false,eval b X.env) :: starEach [] X.env:=by rfl) :
    DE X F0 H0 xq (.Call (.Attribute a "partition" apos) [b] [] cpos) (dMtS opPart fa fb):=.mk fun pins s σ H Q I q=>by
  refine pe_bm PySem.F.plainAttrs_str PySem.F.slot_str_partition PySem.F.type_str_partition mt_part ha.h (pa_cons hb.h pa_nil hs) hbase hfew hline hs rfl pins s σ H Q I ?_
  obtain ⟨F,S,sk,o⟩:=q
  refine ⟨F,S,sk,outE.mb o fun r v F1 H1 e1 q1 o1=>?_⟩
  have rv:=RR.rv e1.fh q1
  generalize toD r=d at rv o1
  cases d <;> first | (exact False.elim o1) | skip
  rename_i z
  have hv:v=.str z:=rv
  subst hv
  refine ⟨rfl,F1,S,sk.step e1,outE.mb o1 fun r2 v2 F2 H2 e2 q2 o2=>?_⟩
  have rv2:=RR.rv e2.fh q2
  generalize toD r2=d2 at rv2 o2
  cases d2 <;> first | (exact False.elim o2) | skip
  rename_i y
  have hv2:v2=.str y:=rv2
  subst hv2
  have o3:outE X.K H0 xq F2 H2 Q (if 1 ≤ y.length∧z.length ≤ 20000 then some (.ok (.ok (.tup [.str (Txt.partition z y).1,.str (Txt.partition z y).2.1,.str (Txt.partition z y).2.2]))) else none):=o2
  by_cases fit:1 ≤ y.length∧z.length ≤ 20000
  · rw [if_pos fit] at o3
    exact ⟨z,y,rfl,rfl,fit.1,fit.2,fun p hp=>o3 _ _ _ (ext_alloc e2.fh hp) ⟨p,_,rfl,SqT.of upd_same,_,_,rfl,rfl,_,_,rfl,rfl,_,_,rfl,rfl,rfl⟩⟩
  · rw [if_neg fit] at o3
    exact False.elim o3
noncomputable def uIntS:D→Option D
  | .str x=>if x.length ≤ 640 then (PySem.intText? x).map .int else none
  | _=>none
theorem call_intS:CallR X (.type "int") (fun xs H Q=>∃ x i,xs=[V.str x]∧x.length ≤ 640∧PySem.intText? x=some i∧Q (.int i) H):=by
  intro pins s σ H vs us Q I r h
  obtain ⟨x,i,rfl,hl,hi,q⟩:=h
  obtain ⟨u,rfl,ru⟩:=vals1 r
  obtain ⟨t,rfl⟩:=ru
  exact PySem.W.KIN.call_text hi hl ⟨.int i,H,I.tok _,⟨_,rfl⟩,q⟩
theorem uIntS_ok:UnD X.K (fun x H Q=>∃ z i,[x]=[V.str z]∧z.length ≤ 640∧PySem.intText? z=some i∧Q (.int i) H) uIntS:=fun F H d1 d v1 Q fh r1 e q=>by
  cases d1 <;> first | (simp [uIntS] at e; done) | skip
  rename_i z
  have e2:(if z.length ≤ 640 then (PySem.intText? z).map D.int else none)=some d:=e
  split at e2
  · rename_i hl
    cases hi:PySem.intText? z with
    | none=>rw [hi] at e2; cases e2
    | some i=>
      rw [hi] at e2
      have e':=Option.some.inj e2
      subst e'
      obtain rfl:v1=.str z:=r1
      exact ⟨z,i,rfl,hl,hi,q _ F H (Ext.refl fh) rfl⟩
  · cases e2
theorem de_intS {p:Pos} (hgl:Gl X "int") (hm:X.mg "int" = none) (ha:DE X F0 H0 xq a fa) (he:starEach [a] X.env=(false,eval a X.env) :: starEach [] X.env:=by rfl):DE X F0 H0 xq (.Call (.Name "int" p) [a] [] pos) (dUn uIntS fa):=
  de_t1 call_intS uIntS_ok hgl hm (by rfl) ha (by decide) (by decide) he
end
end PF
set_option Elab.async false
set_option linter.all false
set_option maxRecDepth 100000
set_option maxHeartbeats 4000000
namespace PF
open PySem PySem.Spec PySem.W L2
open PyProof.Rows hiding St InstAt
section
variable {X:Cx} {C0 C1 C2 C3:Addr}
structure Kin2 (K:PySem.W.Frag) (C0 C1 C2 C3:Addr):Prop where
  e0:kitOne K (.ref C2) (.ref C0)=some true
  eV:kitOne K (.ref C2) (.type "ValueError")=some true
  e1:kitOne K (.ref C2) (.ref C1)=some false
  e3:kitOne K (.ref C2) (.ref C3)=some false
  self:mroIn K C2 (.ref C2)=some true
theorem Kin2.of {K:PySem.W.Frag} {C0 C1 C2 C3:Addr} (m0:mroIn K C2 (.ref C0)=some true) (m1:mroIn K C2 (.ref C1)=some false) (m2:mroIn K C2 (.ref C2)=some true) (m3:mroIn K C2 (.ref C3)=some false) (mv:mroIn K C2 (.type "ValueError")=some true)
    (t0:typeIn K (.ref C0)=some (.type "type")) (t1:typeIn K (.ref C1)=some (.type "type")) (t3:typeIn K (.ref C3)=some (.type "type")) (i0:isClsIn K C0=true) (i1:isClsIn K C1=true) (i3:isClsIn K C3=true):Kin2 K C0 C1 C2 C3:=
  ⟨kit_of m2 m0 t0 i0,kit_ve mv,kit_of m2 m1 t1 i1,kit_of m2 m3 t3 i3,m2⟩
theorem suite_good2 (jE jG:Nat) {nE nG:Str} {p1 p2 p3 p4 p5 p6 p7 p8 p9 q1 q2 q3 q4 q5 q6 q7 q8 q9 r1 r2 r3 r4 r5 r6 r7 r8 r9 s1 s2 s3 s4:Pos} {c0 c1} {x1} (T:Four X.K X.mg C0 C1 C2 C3) (k2:ExK X.K C2) (KI:Kin2 X.K C0 C1 C2 C3)
    (hN:X.N.Nodup) (hjE:X.N[jE]?=some nE) (hjG:X.N[jG]?=some nG) (ne:jE ≠ jG) (lE:X.env.scope.names.lookup nE=some .local) (lG:X.env.scope.names.lookup nG=some .local) (dE:(nE == ("__debug__" : Str))=false) (cE:(nE == ("__classdict__" : Str))=false) (dG:(nG == ("__debug__" : Str))=false) (cG:(nG == ("__classdict__" : Str))=false)
    (hI:Gl X "isinstance") (hV:Gl X "ValueError") (h0:Gl X "FoldError") (h1:Gl X "NoSum") (h3:Gl X "NoPart") (hT:Gl X "int") :
    Suite X jE [.Assign [.Name nG p1] (.BoolOp .And [.Call (.Name "isinstance" p2) [.Name nE p3,.Name "FoldError" p4] [] p5,.Call (.Name "isinstance" p6) [.Name nE p7,.Name "ValueError" p8] [] p9] q1) q2,
      .Return (some (.Subscript (.List [.Tuple [.Constant (.int 0) c0 q3] x1 s4,.Constant .none c1 q4] q5) (.Call (.Name "int" q6) [.BoolOp .And [.Name nG q7,.UnaryOp .Not (.Call (.Name "isinstance" q8) [.Name nE q9,.Name "NoSum" r1] [] r2) r3,.UnaryOp .Not (.Call (.Name "isinstance" r4) [.Name nE r5,.Name "NoPart" r6] [] r7) r8] r9] [] s1) s2)) s3] 2 .non:=by
  intro C hC
  have eC:C=C2:=by
    have z:=hC.symm.trans T.n2
    injection z with z; injection z with z; injection z
  subst eC
  refine ⟨k2,fun pn a oe vs hp hc hd hf=>⟨_,.non,fun _=>rfl,pss_cons (ps_set (i:=jG) hN hjG (Or.inl lG) (pe_and (pe_isx (X:=xcx X a pn) jE hp hc hd hf k2 (fun u r=>by cases r; exact KI.e0) hI T.gi (pe_glob (v:=.ref C0) h0 T.g0 rfl) hjE (Or.inl lE) dE cE)
    (pe_one (pe_isx (X:=xcx X a pn) jE hp hc hd hf k2 (fun u r=>by cases r; exact KI.eV) hI T.gi (pe_bltn (v:=.ty "ValueError") hV T.gv PyProof.Rows.Boot.«ValueError» rfl) hjE (Or.inl lE) dE cE))) rfl (Or.inr lG))
    (pss_one (ps_ret (pe_ix ix_list (pe_lst (pa_cons (pe_tup (pa_cons pe_int pa_nil)) (pa_cons pe_non pa_nil))) (pe_callTy call_int1 hT T.gt (by rfl) (pa_cons (pe_and (pe_var hjG (Or.inl lG) dG cG) (pe_and (pe_not (pe_isx (X:=xcx X a pn) jE hp hc hd hf k2 (fun u r=>by cases r; exact KI.e1) hI T.gi (pe_glob (v:=.ref C1) h1 T.g1 rfl) hjE (Or.inl lE) dE cE))
      (pe_one (pe_not (pe_isx (X:=xcx X a pn) jE hp hc hd hf k2 (fun u r=>by cases r; exact KI.e3) hI T.gi (pe_glob (v:=.ref C3) h3 T.g3 rfl) hjE (Or.inl lE) dE cE))))) pa_nil)) (fun _ _=>rfl)))),fun σ H Dn lσ hσ hrt=>?_⟩⟩
  have jl:jG < σ.length:=by rw [lσ]; exact (List.getElem?_eq_some_iff.mp hjG).1
  have hσ':(σ.set jG (some (V.bl true)))[jE]?=some (some (V.ref a)):=by rw [List.getElem?_set_ne (Ne.symm ne)]; exact hσ
  refine ⟨hσ,true,rfl,?_⟩
  rw [if_pos rfl]
  refine ⟨hσ,?_⟩
  refine ⟨by show 1 ≤ sizeLine; decide,fun p0 hp0=>?_⟩
  refine ⟨by show 2 ≤ sizeLine; decide,fun p hp'=>?_⟩
  refine ⟨V.bl true,set_self jl,true,rfl,?_⟩
  rw [if_pos rfl]
  refine ⟨hσ',false,rfl,true,rfl,?_⟩
  rw [if_pos rfl]
  refine ⟨hσ',false,rfl,?_⟩
  refine .inr ⟨true,rfl,?_⟩
  exact ⟨p,[.ref p0,.non],1,.non,rfl,rfl,SqL.of upd_same,rfl,hrt _ ((same_upd hp0).trans (same_upd hp'))⟩
end
end PF
set_option Elab.async false
set_option linter.all false
set_option maxRecDepth 100000
set_option maxHeartbeats 4000000
namespace R
open PySem L2 PF
noncomputable def b_known_terms_1 (M_written_term:List D→M D):DS→Option Fl:=
  (dDPut 1 (dCall 2 M_written_term (dCons (dVar 3) (dCons (dVar 2) dNil))) (dTup (dCons (dVar 3) (dCons (dVar 2) dNil))))
noncomputable def b_known_terms_2 (M_written_term:List D→M D):DS→Option Fl:=
  (dFor (dRange2 (dCons (dC (.int 1)) (dCons (dVar 0) dNil))) (sName 3) (b_known_terms_1 M_written_term))
noncomputable def g_known_terms (M_written_term:List D→M D):DS→Option Fl:=
  (dSeq (dOwd 1)
    (dSeq (dFor (dRange1 (dCons (dC (.int 9)) dNil)) (sName 2) (b_known_terms_2 M_written_term))
    (dRet (dVar 1))))
noncomputable def m_known_terms:List D→M D:=fun ds=>okM (fin (g_known_terms m_written_term (startN 4 ds)))
noncomputable def g_with_term_x:DS→Option Fl:=
  (dSeq (dIf (dtB (dBin cLt (dVar 2) (dUn uLen (dVar 0)))) (fun _=>some (.ex 2)) dNext)
    (dNoX (dRet (dBin opAdd (dBin opAdd (dVar 0) (dBin opMul (dTup (dCons (dC (.int 0)) dNil)) (dBin (opI2 fun i j=>i - j) (dVar 2) (dUn uLen (dVar 0))))) (dTup (dCons (dVar 1) dNil))))))
noncomputable def m_with_term_x:List D→M D:=fun ds=>(fin (g_with_term_x (startN 3 ds)))
noncomputable def b_read_x_1 (M_known_terms:List D→M D) (M_with_term_x:List D→M D):DS→Option Fl:=
  (dSeq (dIf (dtB (dBin cDNotIn (dVar 4) (dVar 2))) (fun _=>some (.ex 2)) dNext)
    (dSeq (dSet 5 (dBin opGet (dVar 2) (dVar 4)))
    (dSet 3 (dCall 3 M_with_term_x (dCons (dVar 3) (dCons (dBin opIx (dVar 5) (dC (.int 0))) (dCons (dBin opIx (dVar 5) (dC (.int 1))) dNil)))))))
noncomputable def g_read_x (M_known_terms:List D→M D) (M_with_term_x:List D→M D):DS→Option Fl:=
  (dSeq (dIf (dtB (dBin cEq (dVar 0) (dC (.str "0")))) (dRet (dTup dNil)) dNext)
    (dSeq (dSet 2 (dCall 1 M_known_terms (dCons (dVar 1) dNil)))
    (dSeq (dSet 3 (dTup dNil))
    (dSeq (dFor (dRevL (dOf (dMtS opSplit (dVar 0) (dC (.str " + "))))) (sName 4) (b_read_x_1 M_known_terms M_with_term_x))
    (dRet (dVar 3))))))
noncomputable def m_read_x:List D→M D:=fun ds=>(fin (g_read_x m_known_terms m_with_term_x (startN 6 ds)))
noncomputable def g_l_changed:DS→Option Fl:=
  (dSeq (dSet 2 (dOf (dMtS opSplit (dVar 0) (dC (.str " ")))))
    (dSeq (dSet 3 (dBin (opC2 okMod fun i j=>i % j) (dBin (opC2 okDiv fun i j=>i / j) (dVar 1) (dC (.int 8))) (dUn uLen (dVar 2))))
    (dSeq (dSet 4 (dBin (opC2 okMod fun i j=>i % j) (dBin (opC2 okDiv fun i j=>i / j) (dVar 1) (dC (.int 8))) (dBin opAdd (dUn uLen (dVar 0)) (dC (.int 1)))))
    (dSeq (dSet 5 (dBin (opC2 okMod fun i j=>i % j) (dVar 1) (dC (.int 8))))
    (dSeq (dIf (dtB (dBin cEq (dVar 5) (dC (.int 0)))) (dRet (dBin opAdd (dSliceS (dVar 0) dNoPart (dPart (dVar 4))) (dSliceS (dVar 0) (dPart (dBin opAdd (dVar 4) (dC (.int 1)))) dNoPart))) dNext)
    (dSeq (dIf (dtB (dBin cLt (dVar 5) (dC (.int 3)))) (dSeq (dSet 6 (dBin opIx (dC (.str " 0123456789xx+-_X\n\t")) (dBin (opC2 okMod fun i j=>i % j) (dBin (opC2 okDiv fun i j=>i / j) (dVar 1) (dC (.int 7))) (dC (.int 19)))))
    (dRet (dBin opAdd (dBin opAdd (dSliceS (dVar 0) dNoPart (dPart (dVar 4))) (dVar 6)) (dSliceS (dVar 0) (dPart (dBin (opI2 fun i j=>i - j) (dBin opAdd (dVar 4) (dVar 5)) (dC (.int 1)))) dNoPart)))) dNext)
    (dSeq (dIf (dtB (dBin cEq (dVar 5) (dC (.int 3)))) (dRet (dJoin (dC (.str " ")) (dBin opAdd (dSlice (dVar 2) dNoPart (dPart (dVar 3))) (dSlice (dVar 2) (dPart (dBin opAdd (dVar 3) (dC (.int 1)))) dNoPart)))) dNext)
    (dSeq (dIf (dtB (dBin cEq (dVar 5) (dC (.int 4)))) (dRet (dJoin (dC (.str " ")) (dBin opAdd (dBin opAdd (dSlice (dVar 2) dNoPart (dPart (dVar 3))) (dSlice (dVar 2) (dPart (dVar 3)) (dPart (dBin opAdd (dVar 3) (dC (.int 1)))))) (dSlice (dVar 2) (dPart (dVar 3)) dNoPart)))) dNext)
    (dSeq (dIf (dtB (dBin cEq (dVar 5) (dC (.int 5)))) (dSeq (dSet 7 (dBin opAdd (dSlice (dVar 2) (dPart (dBin opAdd (dVar 3) (dC (.int 1)))) (dPart (dBin opAdd (dVar 3) (dC (.int 2))))) (dSlice (dVar 2) (dPart (dVar 3)) (dPart (dBin opAdd (dVar 3) (dC (.int 1)))))))
    (dRet (dJoin (dC (.str " ")) (dBin opAdd (dBin opAdd (dSlice (dVar 2) dNoPart (dPart (dVar 3))) (dVar 7)) (dSlice (dVar 2) (dPart (dBin opAdd (dVar 3) (dC (.int 2)))) dNoPart))))) dNext)
    (dSeq (dSet 8 (dOf (dMtS opSplit (dC (.str "+ 0 1 x x1 1x x0 2x2 x9 0x 4 xx")) (dC (.str " ")))))
    (dRet (dJoin (dC (.str " ")) (dBin opAdd (dBin opAdd (dSlice (dVar 2) dNoPart (dPart (dVar 3))) (dOf (dLst (dCons (dBin opIx (dVar 8) (dBin (opC2 okMod fun i j=>i % j) (dBin (opC2 okDiv fun i j=>i / j) (dVar 1) (dC (.int 7))) (dC (.int 12)))) dNil)))) (dSlice (dVar 2) (dPart (dBin opAdd (dVar 3) (dC (.int 1)))) dNoPart))))))))))))))
noncomputable def m_l_changed:List D→M D:=fun ds=>okM (fin (g_l_changed (startN 9 ds)))
noncomputable def g_l_figure:DS→Option Fl:=
  (dSeq (dIf (dtB (dBin cEq (dVar 0) (dC (.str "")))) (dRet (dVar 1)) dNext)
    (dSeq (dIf (dOr (dtB (dBin cGt (dUn uLen (dVar 0)) (dC (.int 1)))) (dtB (dBin cLt (dMtS opFind (dC (.str "0123456789")) (dVar 0)) (dC (.int 0))))) (dRet (dC .non)) dNext)
    (dRet (dUn uIntS (dVar 0)))))
noncomputable def m_l_figure:List D→M D:=fun ds=>okM (fin (g_l_figure (startN 2 ds)))
noncomputable def b_l_due_1 (M_l_figure:List D→M D) (M_l_is_sum:List D→M D) (M_l_written:List D→M D):DS→Option Fl:=
  (dSeq (dUnp (sTup 3 (sCons (sName 4) (sCons (sName 5) (sCons (sName 6) sNil)))) (dMtS opPart (dVar 3) (dC (.str "x"))))
    (dSeq (dSet 7 (dIfE (dtB (dBin cEq (dVar 5) (dC (.str "x")))) (dCall 2 M_l_figure (dCons (dVar 6) (dCons (dC (.int 1)) dNil))) (dC (.int 0))))
    (dSeq (dSet 8 (dCall 2 M_l_figure (dCons (dVar 4) (dCons (dC (.int 1)) dNil))))
    (dSeq (dIf (dOr (dtB (dUn uIsN (dVar 7))) (dtB (dUn uIsN (dVar 8)))) (dRet (dC .non)) dNext)
    (dStore 2 (dVar 7) (dVar 8))))))
noncomputable def c_l_due_2 (M_l_figure:List D→M D) (M_l_is_sum:List D→M D) (M_l_written:List D→M D):DS→M Bool:=
  (dAnd (dtB (dBin cNe (dVar 2) (dOf (dLst dNil)))) (dtB (dBin cEq (dBin opIx (dVar 2) (dUn uNeg (dC (.int 1)))) (dC (.int 0)))))
noncomputable def b_l_due_3 (M_l_figure:List D→M D) (M_l_is_sum:List D→M D) (M_l_written:List D→M D):DS→Option Fl:=
  (dPop 2)
noncomputable def g_l_due (M_l_figure:List D→M D) (M_l_is_sum:List D→M D) (M_l_written:List D→M D):DS→Option Fl:=
  (dSeq (dOwn 2 (dBinF opMul (dOf (dLst (dCons (dC (.int 0)) dNil))) (dC (.int 10))))
    (dSeq (dFor (dIter (dOf (dMtS opSplit (dVar 0) (dC (.str " + "))))) (sName 3) (b_l_due_1 M_l_figure M_l_is_sum M_l_written))
    (dSeq (whileD (c_l_due_2 M_l_figure M_l_is_sum M_l_written) (b_l_due_3 M_l_figure M_l_is_sum M_l_written) 200)
    (dSeq (dSet 9 (dUn uTup (dVar 2)))
    (dSeq (dIf (dOr (dNot (dtB (dCall 2 M_l_is_sum (dCons (dVar 9) (dCons (dVar 1) dNil))))) (dtB (dBin cNe (dCall 1 M_l_written (dCons (dVar 9) dNil)) (dVar 0)))) (dRet (dC .non)) dNext)
    (dRet (dVar 9)))))))
noncomputable def m_l_due:List D→M D:=fun ds=>okM (fin (g_l_due m_l_figure m_l_is_sum m_l_written (startN 10 ds)))
noncomputable def g_l_found (M_read_x:List D→M D):DS→Option Fl:=
  (dSeq (dTry (dSet 2 (dCall 2 M_read_x (dCons (dVar 0) (dCons (dVar 1) dNil)))) (fun k=>if k=2 then some .non else none))
    (dRet (dBin opIx (dOf (dLst (dCons (dVar 2) (dCons (dTup (dCons (dC (.int 0)) dNil)) dNil)))) (dUn uInt (dUn uIsN (dVar 2))))))
noncomputable def m_l_found:List D→M D:=fun ds=>okM (fin (g_l_found m_read_x (startN 5 ds)))
noncomputable def b_law_k03_1 (M_l_mixed:List D→M D) (M_l_sum:List D→M D) (M_l_written:List D→M D) (M_l_changed:List D→M D) (M_l_drawn:List D→M D) (M_l_found:List D→M D) (M_l_due:List D→M D) (M_l_is_sum:List D→M D):DS→Option Fl:=
  (dSet 3 (dCall 2 M_l_changed (dCons (dVar 3) (dCons (dCall 2 M_l_drawn (dCons (dVar 4) (dCons (dVar 5) dNil))) dNil))))
noncomputable def g_law_k03 (M_l_mixed:List D→M D) (M_l_sum:List D→M D) (M_l_written:List D→M D) (M_l_changed:List D→M D) (M_l_drawn:List D→M D) (M_l_found:List D→M D) (M_l_due:List D→M D) (M_l_is_sum:List D→M D):DS→Option Fl:=
  (dSeq (dSet 1 (dBin opIx (dTup (dCons (dC (.int 2)) (dCons (dC (.int 3)) (dCons (dC (.int 5)) dNil)))) (dBin (opC2 okMod fun i j=>i % j) (dCall 2 M_l_mixed (dCons (dVar 0) (dCons (dC (.int 0)) dNil))) (dC (.int 3)))))
    (dSeq (dSet 2 (dCall 3 M_l_sum (dCons (dCall 2 M_l_mixed (dCons (dVar 0) (dCons (dC (.int 1)) dNil))) (dCons (dVar 1) (dCons (dC (.int 10)) dNil)))))
    (dSeq (dSet 3 (dCall 1 M_l_written (dCons (dVar 2) dNil)))
    (dSeq (dSet 4 (dCall 2 M_l_mixed (dCons (dVar 0) (dCons (dC (.int 2)) dNil))))
    (dSeq (dFor (dRange1 (dCons (dBin opMul (dBin (opC2 okMod fun i j=>i % j) (dVar 4) (dC (.int 3))) (dBin opAdd (dC (.int 1)) (dBin (opC2 okMod fun i j=>i % j) (dBin (opC2 okDiv fun i j=>i / j) (dVar 4) (dC (.int 3))) (dC (.int 2))))) dNil)) (sName 5) (b_law_k03_1 M_l_mixed M_l_sum M_l_written M_l_changed M_l_drawn M_l_found M_l_due M_l_is_sum))
    (dSeq (dSet 6 (dCall 2 M_l_found (dCons (dVar 3) (dCons (dVar 1) dNil))))
    (dRet (dAndV (dBin cEq (dVar 6) (dCall 2 M_l_due (dCons (dVar 3) (dCons (dVar 1) dNil)))) (dOrV (dUn uIsN (dVar 6)) (dCall 2 M_l_is_sum (dCons (dVar 6) (dCons (dVar 1) dNil))))))))))))
noncomputable def m_law_k03:List D→M D:=fun ds=>okM (fin (g_law_k03 m_l_mixed m_l_sum m_l_written m_l_changed m_l_drawn m_l_found m_l_due m_l_is_sum (startN 7 ds)))
end R
set_option Elab.async false
set_option linter.all false
set_option maxRecDepth 100000
set_option maxHeartbeats 4000000
namespace PF
open PySem L2 PA
section
variable {q:Nat} [NeZero q]
end
end PF
set_option Elab.async false
set_option linter.all false
set_option maxRecDepth 100000
set_option maxHeartbeats 4000000
namespace PF
open PySem L2 PA
section
variable {q:Nat} [NeZero q]
theorem sumZ {l:List Int} (h:Sm q l) (hl:l.length ≤ 9):R.m_l_is_sum [tupZ l,.int q]=some (.ok (.bl true)):=by
  have e:isSumD q (tupZ l)=true:=by
    unfold isSumD
    rw [isLong_Sm h]
    unfold tupZ
    simp [hl]
  rw [E_lsum _ _ (Fine_Z (by (clear e h; omega))),e]
end
end PF
namespace K33
open PySem L2 PF PA
variable {q:Nat} [NeZero q]
end K33
set_option Elab.async false
set_option linter.all false
set_option maxRecDepth 100000
set_option maxHeartbeats 4000000
namespace PF
open PySem L2 PA
@[simp] theorem dJoin_e {fa fb:DS→M VR} {S:DS}:dJoin fa fb S=mb (fa S) fun r1=>match toD r1 with
  | .str x=>mb (fb S) fun r2=>vr (opJoin x (toD r2))
  | _=>none:=rfl
@[simp] theorem dSliceS_e {f:DS→M VR} {S:DS} (fl fh:DS→M (Option Int)):dSliceS f fl fh S=mb (f S) fun r=>mb (fl S) fun lo=>mb (fh S) fun hi=>vr (sliceS (toD r) lo hi):=rfl
@[simp] theorem sliceS_str (z:Str) (lo hi:Option Int):sliceS (.str z) lo hi=if z.length ≤ 100000 then some (.str (Txt.slice z lo hi)) else none:=rfl
theorem asS_map (l:List Str):asS (l.map D.str)=some l:=by
  induction l with
  | nil=>rfl
  | cons a l ih=>rw [List.map_cons,asS,ih]; rfl
theorem opJoin_map (x:Str) (l:List Str) (h:joinFit x l=true):opJoin x (.lst (l.map D.str))=some (.str (Txt.join x l)):=by
  unfold opJoin
  simp only [asS_map,h,if_true]
noncomputable def dS (i:Int):Str:=toString i
theorem uStr_d {i:Int} (h:0 ≤ i) (h2:i ≤ 100):uStr (.int i)=some (.str (dS i)):=by
  unfold uStr dS
  simp only
  rw [if_pos (by simp; omega)]
theorem ten_cases {i:Int} (h:0 ≤ i) (h2:i < 10):i=0∨i=1∨i=2∨i=3∨i=4∨i=5∨i=6∨i=7∨i=8∨i=9:=by omega
theorem dS_len {i:Int} (h:0 ≤ i) (h2:i < 10):(dS i).length=1:=by
  rcases ten_cases h h2 with rfl | rfl | rfl | rfl | rfl | rfl | rfl | rfl | rfl | rfl <;> decide +kernel
theorem dS_ok {i:Int} (h:0 ≤ i) (h2:i < 10):PyData.strOk (dS i)=true:=by
  rcases ten_cases h h2 with rfl | rfl | rfl | rfl | rfl | rfl | rfl | rfl | rfl | rfl <;> decide +kernel
theorem strOk_app {x y:Str} (hx:PyData.strOk x=true) (hy:PyData.strOk y=true):PyData.strOk (x ++ y)=true:=by
  unfold PyData.strOk at hx hy ⊢
  rw [Str.cps_append,Array.all_append,hx,hy]; rfl
theorem len_0:("" : Str).length=0:=by decide +kernel
theorem len_x:("x" : Str).length=1:=by decide +kernel
theorem len_p:(" + " : Str).length=3:=by decide +kernel
theorem strOk_p:PyData.strOk (" + " : Str)=true:=by decide +kernel
noncomputable def tm (a i:Int):Str:=if i=0 then dS a else (if a=1 then ("" : Str) else dS a) ++ ("x" : Str) ++ (if i=1 then ("" : Str) else dS i)
theorem tm_len {a i:Int} (ha:0 ≤ a) (ha2:a < 10) (hi:0 ≤ i) (hi2:i < 10):(tm a i).length ≤ 3:=by
  unfold tm
  have h1:=dS_len ha ha2
  have h2:=dS_len hi hi2
  split
  · (clear h2 hi2 hi ha2 ha; omega)
  · rw [Str.length_append,Str.length_append,len_x]
    split <;> split <;> simp only [len_0,h1,h2] <;> decide
theorem tm_ok {a i:Int} (ha:0 ≤ a) (ha2:a < 10) (hi:0 ≤ i) (hi2:i < 10):PyData.strOk (tm a i)=true:=by
  unfold tm
  have h1:=dS_ok ha ha2
  have h2:=dS_ok hi hi2
  split
  · exact h1
  · refine strOk_app (strOk_app ?_ strOk_x) ?_
    · split <;> first | exact strOk_0 | exact h1
    · split <;> first | exact strOk_0 | exact h2
noncomputable def tms (l:List Int):Nat→List Str
  | 0=>[]
  | k + 1=>tms l k ++ (if co l (l.length - 1 - k)=0 then [] else [tm (co l (l.length - 1 - k)) ((l.length - 1 - k:Nat):Int)])
theorem tms_len (l:List Int):∀ k,(tms l k).length ≤ k
  | 0=>Nat.le_refl _
  | k + 1=>by
    have:=tms_len l k
    rw [tms,List.length_append]
    split <;> simp <;> omega
theorem co_red {p:Int} (hp:0 < p) {l:List Int} (h:Red p l) (k:Nat):0 ≤ co l k∧co l k < p:=by
  by_cases c:k < l.length
  · rw [getD_lt c]; exact h _ (List.getElem_mem c)
  · rw [getD_ge (by (clear h hp; omega))]; (clear c h; omega)
theorem tms_mem {p:Int} (hp:0 < p) (hp5:p ≤ 5) {l:List Int} (h:Red p l) (hl:l.length ≤ 10):∀ k,∀ t ∈ tms l k,t.length ≤ 3∧PyData.strOk t=true
  | 0,t,ht=>by simp [tms] at ht
  | k + 1,t,ht=>by
    rw [tms] at ht
    rcases List.mem_append.mp ht with ht | ht
    · exact tms_mem hp hp5 h hl k t ht
    · split at ht
      · simp at ht
      · have hc:=co_red hp h (l.length - 1 - k)
        have e:t=tm (co l (l.length - 1 - k)) ((l.length - 1 - k:Nat):Int):=by simpa using ht
        subst e
        exact ⟨tm_len hc.1 (by (clear hl h hp; omega)) (by (clear hc hl h hp5 hp; omega)) (by (clear hc h hp5 hp; omega)),tm_ok hc.1 (by (clear hl h hp; omega)) (by (clear hc hl h hp5 hp; omega)) (by (clear hc h hp5 hp; omega))⟩
theorem sum_len {ts:List Str} (h:∀ t ∈ ts,t.length ≤ 3):(ts.map (·.length)).sum ≤ 3 * ts.length:=by
  induction ts with
  | nil=>simp
  | cons t ts ih=>
    have h1:=h t (by simp)
    have h2:=ih fun t ht=>h t (by simp [ht])
    simp
    (clear h ih; omega)
theorem at_co {l:List Int} {k:Nat} (h:k < l.length):atI (l.map D.int) (k:Int)=some (.int (co l k)):=by
  rw [atI_nat' (by (clear h; omega))]
  simp [getD_lt h,h]
theorem down_len (l:List Int):(downD ((l.length:Int) - 1) (-1)).length=l.length:=by rw [downD_len]; omega
noncomputable def glue (ts:List Str):Str:=ts.foldl (fun (acc t:Str)=>acc ++ (" + " : Str) ++ t) ("" : Str)
theorem glue_snoc (ts:List Str) (t:Str):glue (ts ++ [t])=glue ts ++ " + " ++ t:=by unfold glue; rw [List.foldl_append]; rfl
theorem glue_len {ts:List Str} (h:∀ t ∈ ts,t.length ≤ 3):(glue ts).length ≤ 6 * ts.length:=by
  have key:∀ (ts:List Str) (acc:Str),(∀ t ∈ ts,t.length ≤ 3)→(ts.foldl (fun (acc t:Str)=>acc ++ (" + " : Str) ++ t) acc).length ≤ acc.length + 6 * ts.length:=by
    intro ts
    induction ts with
    | nil=>intro acc _; simp
    | cons t ts ih=>
      intro acc h
      have h1:=h t (by simp)
      have h2:=ih (acc ++ " + " ++ t) fun t ht=>h t (by simp [ht])
      rw [Str.length_append,Str.length_append,len_p] at h2
      rw [List.foldl_cons,List.length_cons]
      (clear ih; omega)
  have:=key ts "" h
  rw [len_0] at this
  unfold glue
  (clear key h; omega)
theorem glue_ok {ts:List Str} (h:∀ t ∈ ts,PyData.strOk t=true):PyData.strOk (glue ts)=true:=by
  have key:∀ (ts:List Str) (acc:Str),PyData.strOk acc=true→(∀ t ∈ ts,PyData.strOk t=true)→PyData.strOk (ts.foldl (fun (acc t:Str)=>acc ++ (" + " : Str) ++ t) acc)=true:=by
    intro ts
    induction ts with
    | nil=>intro acc h _; exact h
    | cons t ts ih=>
      intro acc ha h
      exact ih _ (strOk_app (strOk_app ha strOk_p) (h t (by simp))) fun t ht=>h t (by simp [ht])
  exact key ts "" strOk_0 h
theorem glue_join:∀ (ts:List Str) (t acc:Str),(t :: ts).foldl (fun (acc t:Str)=>acc ++ (" + " : Str) ++ t) acc=acc ++ (" + " ++ Str.join " + " (t :: ts))
  | [],t,acc=>by
    show acc ++ " + " ++ t=acc ++ (" + " ++ t)
    rw [Str.append_assoc]
  | y :: r,t,acc=>by
    rw [List.foldl_cons,glue_join r y]
    show acc ++ " + " ++ t ++ (" + " ++ Str.join " + " (y :: r))=acc ++ (" + " ++ (t ++ " + " ++ Str.join " + " (y :: r)))
    simp only [Str.append_assoc]
theorem join_ok {ts:List Str} (h:∀ t ∈ ts,PyData.strOk t=true):PyData.strOk (Str.join " + " ts)=true:=by
  induction ts with
  | nil=>decide +kernel
  | cons t ts ih=>
    cases ts with
    | nil=>exact h t (by simp)
    | cons y r=>
      show PyData.strOk (t ++ " + " ++ Str.join " + " (y :: r))=true
      exact strOk_app (strOk_app (h t (by simp)) strOk_p) (ih fun t ht=>h t (by simp [ht]))
theorem slice3 (y:Str):Txt.slice ((" + " : Str) ++ y) (some 3) none=y:=by
  show StrLaws.sliceText ((" + " : Str) ++ y) (some 3) none=y
  have e:(" + " : Str).cps.toList=[32,43,32]:=by decide +kernel
  have e2:((" + " : Str) ++ y).cps.toList=[32,43,32] ++ y.cps.toList:=by rw [Str.cps_append,Array.toList_append,e]
  rw [StrLaws.sliceText_from ⟨by decide,by rw [e2]; simp; (clear e2 e; omega)⟩,e2]
  have e3:((([32,43,32] ++ y.cps.toList:List Nat).length:Int) - 3).toNat=y.cps.toList.length:=by simp; (clear e2 e; omega)
  rw [e3]
  apply Str.ext'
  have e4:List.drop (3:Int).toNat ([32,43,32] ++ y.cps.toList)=y.cps.toList:=rfl
  rw [e4,List.take_length]
theorem S_l_written (l:List Int) (g:Str) (i c:Int) (v3:Option Slot) (ea:atI (l.map D.int) i=some (.int c)) (hc:0 ≤ c∧c < 10) (hi:0 ≤ i∧i < 10) (hg:g.length ≤ 1000) :
    R.b_l_written_1 [some (Slot.val (tupZ l)),some (Slot.val ((D.str g))),some (Slot.val (D.int i)),v3]=some (.next [some (Slot.val (tupZ l)),some (Slot.val ((D.str (if c=0 then g else g ++ " + " ++ tm c i)))),some (Slot.val (D.int i)),some (Slot.val (D.int c))]):=by
  have u1:=uStr_d hc.1 (by (clear hg hi ea; omega))
  have u2:=uStr_d hi.1 (by (clear u1 hg hc ea; omega))
  have n1:=dS_len hc.1 hc.2
  have n2:=dS_len hi.1 hi.2
  unfold R.b_l_written_1 tm
  by_cases c0:c=0
  · subst c0
    simp [tupZ,ea]
  · by_cases c1:i=0
    · subst c1
      simp [-uStr_e,tupZ,ea,c0,u1,Str.length_append,len_p,n1,show g.length + 3 ≤ 100000 by (clear n2 u2 hi ea c0 n1 u1 hc; omega),show g.length + 3 + 1 ≤ 100000 by (clear n2 u2 hi ea c0 n1 u1 hc; omega)]
    · have k1:g.length + 3 ≤ 100000:=by (clear c1 c0 n2 n1 u2 u1 hi hc ea; omega)
      have k2:g.length + 3 + 1 ≤ 100000:=by (clear k1 c1 c0 n2 n1 u2 u1 hi hc ea; omega)
      have k3:g.length + 3 + 1 + 1 ≤ 100000:=by (clear k2 k1 c1 c0 n2 n1 u2 u1 hi hc ea; omega)
      have k4:g.length + 3 + 1 + 1 + 1 ≤ 100000:=by (clear k3 k2 k1 c1 c0 n2 n1 u2 u1 hi hc ea; omega)
      by_cases c2:c=1
      · by_cases c3:i=1
        · subst c2 c3
          simp [-uStr_e,tupZ,ea,u1,u2,Str.length_append,len_p,len_x,len_0,n1,k1,k2,k3,k4,Str.append_assoc]
        · subst c2
          simp [-uStr_e,tupZ,ea,c1,c3,u1,u2,Str.length_append,len_p,len_x,len_0,n1,n2,k1,k2,k3,k4,Str.append_assoc]
      · by_cases c3:i=1
        · subst c3
          simp [-uStr_e,tupZ,ea,c0,c2,u1,u2,Str.length_append,len_p,len_x,len_0,n1,k1,k2,k3,k4,Str.append_assoc]
        · simp [-uStr_e,tupZ,ea,c0,c1,c2,c3,u1,u2,Str.length_append,len_p,len_x,len_0,n1,n2,k1,k2,k3,k4,Str.append_assoc]
theorem L_l_written {p:Int} (hp:0 < p) (hp5:p ≤ 5) (l:List Int) (hr:Red p l) (hl:l.length ≤ 10) :
    ∃ v2 v3,loopD (sName 2) R.b_l_written_1 (downD ((l.length:Int) - 1) (-1)) [some (Slot.val (tupZ l)),some (Slot.val ((D.str ""))),none,none]=some (.next [some (Slot.val (tupZ l)),some (Slot.val ((D.str (glue (tms l l.length))))),v2,v3]):=by
  obtain ⟨S',e,v2,v3,hS⟩:=loopD_inv0 (set:=sName 2) (g:=R.b_l_written_1) (fun k S=>∃ v2 v3,S=[some (Slot.val (tupZ l)),some (Slot.val ((D.str (glue (tms l k))))),v2,v3]) (l:=downD ((l.length:Int) - 1) (-1)) (S:=[some (Slot.val (tupZ l)),some (Slot.val ((D.str ""))),none,none]) ⟨none,none,rfl⟩ (fun k d S hk ⟨v2,v3,hS⟩=>by
    obtain ⟨rfl,hk2⟩:=downD_get hk
    subst hS
    obtain ⟨j,hj⟩:∃ j:Nat,j=l.length - 1 - k:=⟨_,rfl⟩
    have hkl:j < l.length:=by (clear hk hl hr hp5 hp; omega)
    have ej:(l.length:Int) - 1 - k=(j:Int):=by (clear hkl hk hl hr hp5 hp; omega)
    rw [ej]
    have est:tms l (k + 1)=tms l k ++ (if co l j=0 then [] else [tm (co l j) (j:Int)]):=by rw [tms,hj]
    have hc:=co_red hp hr j
    have g1:(glue (tms l k)).length ≤ 1000:=by
      have:=glue_len (fun t ht=>(tms_mem hp hp5 hr hl k t ht).1)
      have:=tms_len l k
      (clear hc est ej hkl hj hk hr hp5 hp; omega)
    have key:=S_l_written l (glue (tms l k)) j (co l j) v3 (at_co hkl) ⟨hc.1,by (clear g1 est ej hkl hj hk hk2 hl hr hp; omega)⟩ ⟨by (clear g1 hc est ej hkl hj hk hk2 hl hr hp5 hp; omega),by (clear g1 hc est ej hkl hk hk2 hr hp5 hp; omega)⟩ g1
    refine ⟨_,_,rfl,key,some (Slot.val (D.int j)),some (Slot.val (D.int (co l j))),?_⟩
    have eg:glue (tms l (k + 1))=if co l j=0 then glue (tms l k) else glue (tms l k) ++ " + " ++ tm (co l j) j:=by
      rw [est]
      split
      · rw [List.append_nil]
      · exact glue_snoc _ _
    rw [eg])
  rw [down_len] at hS
  subst hS
  exact ⟨v2,v3,e⟩
theorem cEq_str {x y:Str} (hx:PyData.strOk x=true) (hy:PyData.strOk y=true):cEq (.str x) (.str y)=some (.bl (x == y)):=by
  unfold cEq
  rw [if_pos (by simp [dep,hx,hy])]
  rw [deq]
noncomputable def wr (l:List Int):Str:=if l=[] then "0" else Str.join " + " (tms l l.length)
theorem tms_pos {l:List Int} (h:co l (l.length - 1) ≠ 0):∀ k,tms l (k + 1) ≠ []
  | 0=>by rw [tms,if_neg (by simpa using h)]; simp
  | k + 1=>by
    rw [tms]
    intro e
    exact tms_pos h k (List.append_eq_nil_iff.mp e).1
theorem top_co {l:List Int} (h:Top l) (hne:l ≠ []):co l (l.length - 1) ≠ 0:=by
  have h0:=List.length_pos_iff.mpr hne
  rw [getD_lt (by (clear hne h; omega))]
  intro e
  apply h
  rw [List.getLast?_eq_getElem?,List.getElem?_eq_getElem (by (clear e hne h; omega)),e]
theorem tms_ne {l:List Int} (h:Top l) (hne:l ≠ []):tms l l.length ≠ []:=by
  have h0:=List.length_pos_iff.mpr hne
  have:=tms_pos (top_co h hne) (l.length - 1)
  rwa [show l.length - 1 + 1=l.length by (clear this hne h; omega)] at this
theorem down3_e (l:List Int) (hl:l.length ≤ 100):down3 (some ((l.length:Int) - 1)) (some (-1)) (some (-1))=some (.ok (downD ((l.length:Int) - 1) (-1))):=by
  simp only [down3]
  rw [if_pos (by simp; omega)]
theorem E_l_written {p:Int} (hp:0 < p) (hp5:p ≤ 5) (l:List Int) (hs:Sm p l) (hl:l.length ≤ 10):R.m_l_written [tupZ l]=some (.ok (.str (wr l))):=by
  obtain ⟨v2,v3,e⟩:=L_l_written hp hp5 l hs.1 hl
  have m1:=tms_mem hp hp5 hs.1 hl l.length
  have g1:=glue_ok fun t ht=>(m1 t ht).2
  have g2:=glue_len fun t ht=>(m1 t ht).1
  have g3:=tms_len l l.length
  have ce:=cEq_str g1 strOk_0
  have dn:=down3_e l (by (clear ce g3 g2 g1 m1 e hs hp5 hp; omega))
  unfold R.m_l_written R.g_l_written
  rw [startN_1,seq_next (S':=[some (Slot.val (tupZ l)),some (Slot.val ((D.str ""))),none,none]) (by simp)]
  rw [seq_next (S':=[some (Slot.val (tupZ l)),some (Slot.val ((D.str (glue (tms l l.length))))),v2,v3]) (by
    simp only [dFor_e,dRange3,dCons_e,dBin_e,dUn_e,dVar_e,dC_e,dNil_e,mb_ok,toD_ok,List.getElem?_cons_zero,tupZ,uLen_tup,List.length_map,vr_some,opI2_e,uNeg_e,asInt]
    rw [dn]
    exact e)]
  by_cases c:l=[]
  · subst c
    have:glue (tms [] 0) = "" := rfl
    simp [this] at ce
    simp [this,ce,wr]
  · have hj:glue (tms l l.length) = " + " ++ Str.join " + " (tms l l.length):=by
      have:=tms_ne hs.2 c
      cases z:tms l l.length with
      | nil=>exact absurd z this
      | cons t ts=>
        unfold glue
        rw [glue_join]
        exact Str.empty_append _
    have nb:(glue (tms l l.length) == ("" : Str))=false:=by
      rw [beq_eq_false_iff_ne]
      intro q
      have:=congrArg Str.length q
      rw [hj,Str.length_append,len_p,len_0] at this
      (clear q hj c dn ce g3 g2 g1 m1 e hl hs hp5 hp; omega)
    rw [nb] at ce
    have hsl:Txt.slice (glue (tms l l.length)) (some 3) none=wr l:=by
      rw [hj,slice3]
      unfold wr
      rw [if_neg c]
    have k:(glue (tms l l.length)).length ≤ 100000:=by (clear hsl nb hj c dn ce g1 m1 e hs hp5 hp; omega)
    simp [ce,k,hsl]
theorem ints_of {p:Int}:∀ {L:List D},L.all (isNum p)=true→∃ l:List Int,L=l.map D.int∧Red p l
  | [],_=>⟨[],rfl,fun x h=>by simp at h⟩
  | d :: L,h=>by
    rw [List.all_cons,Bool.and_eq_true] at h
    obtain ⟨l,rfl,hr⟩:=ints_of h.2
    cases d with
    | int i=>
      refine ⟨i :: l,rfl,fun x hx=>?_⟩
      rcases List.mem_cons.mp hx with rfl | hx
      · have:=h.1
        simp [isNum] at this
        exact this
      · exact hr x hx
    | _=>exact absurd h.1 (by simp [isNum])
theorem isSum_inv {p:Int} {d:D} (h:isSumD p d=true):∃ l,d=tupZ l∧Sm p l∧l.length ≤ 9:=by
  cases d with
  | tup L=>
    unfold isSumD isLong at h
    simp only [Bool.and_eq_true,decide_eq_true_eq] at h
    obtain ⟨⟨h1,h2⟩,h3⟩:=h
    obtain ⟨l,rfl,hr⟩:=ints_of h1
    refine ⟨l,rfl,⟨hr,fun e=>?_⟩,by simpa using h3⟩
    cases l with
    | nil=>simp at e
    | cons a l=>
      have e':(List.map D.int (a :: l)).getLast?=some (.int 0):=by rw [List.getLast?_map,e]; rfl
      rw [e'] at h2
      simp at h2
  | _=>simp [isSumD,isLong] at h
theorem wr_ok {p:Int} (hp:0 < p) (hp5:p ≤ 5) {l:List Int} (hr:Red p l) (hl:l.length ≤ 10):PyData.strOk (wr l)=true:=by
  unfold wr
  split
  · decide +kernel
  · exact join_ok fun t ht=>(tms_mem hp hp5 hr hl l.length t ht).2
end PF
namespace K02
open PySem L2 PF
end K02
set_option Elab.async false
set_option linter.all false
set_option maxRecDepth 100000
set_option maxHeartbeats 4000000
namespace PF
open PySem L2 PA
open PySem.StrLaws PySem.Builtin.Str
theorem sp_list:(" + " : Str).cps.toList=[32,43,32]:=by decide +kernel
theorem chain_uniq {s sub:Str} {hi:Nat}:∀ {c1 c2:List Nat} {a f1 f2:Nat},ChainG s sub hi a c1 f1→(∀ k,f1 ≤ k→¬ At s sub hi k)→ChainG s sub hi a c2 f2→(∀ k,f2 ≤ k→¬ At s sub hi k)→c1=c2
  | [],[],_,_,_,_,_,_,_=>rfl
  | [],c :: r,a,f1,f2,h1,n1,h2,n2=>by
    have e:f1=a:=h1
    subst e
    exact absurd h2.2.1 (n1 c h2.1)
  | c :: r,[],a,f1,f2,h1,n1,h2,n2=>by
    have e:f2=a:=h2
    subst e
    exact absurd h1.2.1 (n2 c h1.1)
  | c :: r,d :: r',a,f1,f2,h1,n1,h2,n2=>by
    obtain ⟨p1,p2,p3,p4⟩:=h1
    obtain ⟨q1,q2,q3,q4⟩:=h2
    rcases Nat.lt_trichotomy c d with z | z | z
    · exact absurd p2 (q3 c p1 z)
    · subst z
      rw [chain_uniq p4 n1 q4 n2]
    · exact absurd q2 (p3 d q1 z)
theorem at_sp {x:Str} {k:Nat} (h:At x " + " x.length k):k + 3 ≤ x.length∧(x.cps.toList.drop k).take 3=[32,43,32]:=by
  have h1:=h.1
  have h2:=h.2
  rw [len_p] at h1
  rw [subAt_eq,sp_list,len_p] at h2
  exact ⟨h1,eq_of_beq h2⟩
theorem sp_at {x:Str} {k:Nat} (h1:k + 3 ≤ x.length) (h2:(x.cps.toList.drop k).take 3=[32,43,32]):At x " + " x.length k:=by
  refine ⟨by rw [len_p]; exact h1,?_⟩
  rw [subAt_eq,sp_list,len_p,h2]; rfl
theorem no_at {x:Str} {A t B:List Nat} (e:x.cps.toList=A ++ (t ++ B)) (h:32 ∉ t) {k:Nat} (h1:A.length ≤ k) (h2:k < A.length + t.length):¬ At x " + " x.length k:=by
  intro hA
  have h3:=(at_sp hA).2
  have h4:=congrArg (fun l:List Nat=>l[0]?) h3
  simp only [List.getElem?_take_of_lt (show 0 < 3 by decide),List.getElem?_drop,e] at h4
  rw [Nat.add_zero,List.getElem?_append_right h1,List.getElem?_append_left (by omega)] at h4
  exact h (List.mem_of_getElem? h4)
theorem len_list (x:Str):x.cps.toList.length=x.length:=by simp [Str.length]
theorem str_list {x y:Str} (h:x.cps.toList=y.cps.toList):x=y:=Str.ext' (Array.toList_inj.mp h)
theorem chain_join (x:Str):∀ (T:List Str) (t:Str) (A:List Nat),x.cps.toList=A ++ (Str.join " + " (t :: T)).cps.toList→(∀ u ∈ t :: T,32 ∉ u.cps.toList)→
    ∃ cuts f,ChainG x " + " x.length A.length cuts f∧(∀ k,f ≤ k→¬ At x " + " x.length k)∧partsFrom x (" + " : Str).length A.length cuts=t :: T
  | [],t,A,e,h=>by
    have e':x.cps.toList=A ++ (t.cps.toList ++ []):=by rw [List.append_nil]; exact e
    have hl:x.length=A.length + t.cps.toList.length:=by rw [← len_list,e',List.append_nil,List.length_append]
    refine ⟨[],A.length,rfl,fun k hk hA=>no_at e' (h t (by simp)) hk (by have:=(at_sp hA).1; omega) hA,?_⟩
    show [strSub x A.length x.length]=[t]
    congr 1
    apply str_list
    rw [strSub_toList,e',List.append_nil,List.drop_left,List.take_of_length_le (by omega)]
  | u :: r,t,A,e,h=>by
    have ej:(Str.join " + " (t :: u :: r)).cps.toList=t.cps.toList ++ ([32,43,32] ++ (Str.join " + " (u :: r)).cps.toList):=by
      show (t ++ " + " ++ Str.join " + " (u :: r)).cps.toList=_
      rw [Str.cps_append,Str.cps_append,Array.toList_append,Array.toList_append,sp_list,List.append_assoc]
    rw [ej] at e
    have e2:x.cps.toList=(A ++ t.cps.toList ++ [32,43,32]) ++ (Str.join " + " (u :: r)).cps.toList:=by rw [e]; simp
    obtain ⟨cuts,f,c1,c2,c3⟩:=chain_join x r u (A ++ t.cps.toList ++ [32,43,32]) e2 (fun v hv=>h v (List.mem_cons_of_mem _ hv))
    have hl:x.length=A.length + t.cps.toList.length + 3 + (Str.join " + " (u :: r)).cps.toList.length:=by rw [← len_list,e2]; simp; omega
    have ea:(A ++ t.cps.toList ++ [32,43,32]).length=A.length + t.cps.toList.length + (" + " : Str).length:=by rw [len_p]; simp; omega
    rw [ea] at c1 c3
    refine ⟨(A.length + t.cps.toList.length) :: cuts,f,⟨by omega,sp_at (by omega) ?_,fun k h1 h2=>no_at e (h t (by simp)) h1 h2,c1⟩,c2,?_⟩
    · rw [e,← List.append_assoc,List.drop_left' (by simp)]; rfl
    · show strSub x A.length (A.length + t.cps.toList.length) :: partsFrom x (" + " : Str).length (A.length + t.cps.toList.length + (" + " : Str).length) cuts=_
      rw [c3]
      congr 1
      apply str_list
      rw [strSub_toList,e,List.drop_left,Nat.add_sub_cancel_left,List.take_left]
theorem kind_sp (x:Str):¬ Builtin.Str.strKind x < Builtin.Str.strKind (" + " : Str):=by
  have e:Builtin.Str.strKind (" + " : Str)=1:=by decide +kernel
  rw [e]
  unfold Builtin.Str.strKind
  split
  · omega
  · split <;> omega
theorem split_join (t:Str) (T:List Str) (h:∀ u ∈ t :: T,32 ∉ u.cps.toList):Txt.split (Str.join " + " (t :: T)) " + " = t :: T:=by
  obtain ⟨x,hx⟩:∃ x,x=Str.join " + " (t :: T):=⟨_,rfl⟩
  obtain ⟨cuts,f,c1,c2,c3⟩:=chain_join x T t [] (by rw [hx]; rfl) h
  obtain ⟨f',d1,d2⟩:=occ_tight x " + " (by rw [len_p]; decide)
  have ec:=chain_uniq d1 d2 c1 c2
  rw [← hx]
  have one:cuts=[]→[x]=t :: T:=fun z=>by
    subst z
    rw [← c3]
    show [x]=[strSub x 0 x.length]
    rw [sub_whole]
  unfold Txt.split
  split
  · rename_i hc
    rw [Bool.or_eq_true,decide_eq_true_eq,decide_eq_true_eq] at hc
    rcases hc with hc | hc
    · apply one
      cases cuts with
      | nil=>rfl
      | cons c r=>
        have:=(at_sp c1.2.1).1
        rw [len_p] at hc
        omega
    · exact absurd hc (kind_sp x)
  · split
    · rename_i he
      apply one
      rw [← ec]
      exact List.isEmpty_iff.mp he
    · rw [partsBetween_eq,ec]
      exact c3
theorem ok_iff {x:Str}:PyData.strOk x=true↔∀ c ∈ x.cps.toList,c < 0x110000:=by
  unfold PyData.strOk
  rw [← Array.all_toList,List.all_eq_true]
  simp
theorem mem_join {y:Str}:∀ {T:List Str} {p:Str} {c:Nat},p ∈ T→c ∈ p.cps.toList→c ∈ (Str.join y T).cps.toList
  | [t],p,c,h,hc=>by
    rw [List.mem_singleton.mp h] at hc
    exact hc
  | t :: u :: r,p,c,h,hc=>by
    show c ∈ (t ++ y ++ Str.join y (u :: r)).cps.toList
    rw [Str.cps_append,Str.cps_append,Array.toList_append,Array.toList_append]
    rcases List.mem_cons.mp h with rfl | h
    · exact List.mem_append_left _ (List.mem_append_left _ hc)
    · exact List.mem_append_right _ (mem_join h hc)
theorem split_ok {x y p:Str} (h:PyData.strOk x=true) (hp:p ∈ Txt.split x y):PyData.strOk p=true:=
  ok_iff.mpr fun c hc=>ok_iff.mp h c (by rw [← join_split x y]; exact mem_join hp hc)
theorem part_oks {x y:Str} (h:PyData.strOk x=true):PyData.strOk (Txt.partition x y).1=true∧PyData.strOk (Txt.partition x y).2.1=true∧PyData.strOk (Txt.partition x y).2.2=true:=by
  have e:=congrArg (fun z:Str=>z.cps.toList) (partition_sum x y)
  simp only [Str.cps_append,Array.toList_append] at e
  have m:=ok_iff.mp h
  rw [← e] at m
  refine ⟨ok_iff.mpr fun c hc=>m c ?_,ok_iff.mpr fun c hc=>m c ?_,ok_iff.mpr fun c hc=>m c ?_⟩ <;> simp [hc]
theorem join_oks {y:Str} (hy:PyData.strOk y=true):∀ {T:List Str},(∀ p ∈ T,PyData.strOk p=true)→PyData.strOk (Str.join y T)=true
  | [],_=>by
    show PyData.strOk Str.empty=true
    decide +kernel
  | [t],h=>h t (by simp)
  | t :: u :: r,h=>by
    show PyData.strOk (t ++ y ++ Str.join y (u :: r))=true
    exact strOk_app (strOk_app (h t (by simp)) hy) (join_oks hy fun p hp=>h p (List.mem_cons_of_mem _ hp))
theorem slice_sub {x:Str} {lo hi:Option Int} {c:Nat} (h:c ∈ (Txt.slice x lo hi).cps.toList):c ∈ x.cps.toList:=by
  have h2:c ∈ (StrLaws.sliceText x lo hi).cps.toList:=h
  unfold StrLaws.sliceText at h2
  split at h2
  · exact h2
  · simp only [List.mem_filterMap] at h2
    obtain ⟨i,_,e⟩:=h2
    have:=Array.mem_of_getElem? e
    simpa using this
theorem slice_ok {x:Str} {lo hi:Option Int} (h:PyData.strOk x=true):PyData.strOk (Txt.slice x lo hi)=true:=ok_iff.mpr fun c hc=>ok_iff.mp h c (slice_sub hc)
end PF
set_option Elab.async false
set_option linter.all false
set_option maxRecDepth 100000
set_option maxHeartbeats 4000000
namespace PF
open PySem L2 PA
open PySem.StrLaws
noncomputable def tlow:Nat→List Int→List Str
  | _,[]=>[]
  | i,c :: l=>(if c=0 then [] else [tm c (i:Int)]) ++ tlow (i + 1) l
theorem tlow_app:∀ (i:Nat) (l r:List Int),tlow i (l ++ r)=tlow i l ++ tlow (i + l.length) r
  | i,[],r=>by simp [tlow]
  | i,c :: l,r=>by
    rw [List.cons_append,tlow,tlow,tlow_app (i + 1) l r,List.append_assoc,List.length_cons,show i + 1 + l.length=i + (l.length + 1) by omega]
theorem tlow_zeros:∀ (z i:Nat),tlow i (List.replicate z 0)=[]
  | 0,_=>rfl
  | z + 1,i=>by rw [List.replicate_succ,tlow,if_pos rfl,tlow_zeros z]; rfl
theorem tms_drop (l:List Int):∀ k,k ≤ l.length→tms l k=(tlow (l.length - k) (l.drop (l.length - k))).reverse
  | 0,_=>by simp [tms,tlow]
  | k + 1,h=>by
    have ih:=tms_drop l k (by omega)
    have hl:l.length - (k + 1) < l.length:=by omega
    have e:l.drop (l.length - (k + 1))=co l (l.length - 1 - k) :: l.drop (l.length - k):=by
      rw [List.drop_eq_getElem_cons hl,show l.length - (k + 1) + 1=l.length - k by omega]
      congr 1
      rw [getD_lt (by omega)]
      congr 1
      omega
    rw [tms,ih,e,tlow,List.reverse_append,show l.length - (k + 1) + 1=l.length - k by omega,show l.length - (k + 1)=l.length - 1 - k by omega]
    congr 1
    split <;> rfl
theorem tms_low (l:List Int):tms l l.length=(tlow 0 l).reverse:=by
  have:=tms_drop l l.length (Nat.le_refl _)
  simpa using this
theorem dS_no {i:Int} (h:0 ≤ i) (h2:i < 10):32 ∉ (dS i).cps.toList:=by
  rcases ten_cases h h2 with rfl | rfl | rfl | rfl | rfl | rfl | rfl | rfl | rfl | rfl <;> decide +kernel
theorem app_no {x y:Str} {c:Nat} (hx:c ∉ x.cps.toList) (hy:c ∉ y.cps.toList):c ∉ (x ++ y).cps.toList:=by
  rw [Str.cps_append,Array.toList_append,List.mem_append]
  exact fun h=>h.elim hx hy
theorem tm_no {a i:Int} (ha:0 ≤ a) (ha2:a < 10) (hi:0 ≤ i) (hi2:i < 10):32 ∉ (tm a i).cps.toList:=by
  unfold tm
  have h1:=dS_no ha ha2
  have h2:=dS_no hi hi2
  have h0:32 ∉ ("" : Str).cps.toList:=by decide +kernel
  have hx:32 ∉ ("x" : Str).cps.toList:=by decide +kernel
  split
  · exact h1
  · refine app_no (app_no ?_ hx) ?_
    · split <;> assumption
    · split <;> assumption
noncomputable def prs (q:Nat):List (Int × Int):=(List.range 9).flatMap fun (i:Nat)=>(List.range (q - 1)).map fun (a:Nat)=>(((a + 1:Nat):Int),((i:Nat):Int))
theorem prs_mem {q:Nat} {p:Int × Int}:p ∈ prs q↔1 ≤ p.1∧p.1 < q∧0 ≤ p.2∧p.2 < 9:=by
  unfold prs
  simp only [List.mem_flatMap,List.mem_map,List.mem_range]
  constructor
  · rintro ⟨i,hi,a,ha,rfl⟩
    simp only
    omega
  · intro h
    obtain ⟨x,y⟩:=p
    simp only at h
    exact ⟨y.toNat,by omega,(x - 1).toNat,by omega,by ext <;> simp <;> omega⟩
noncomputable def kKey (p:Int × Int):Key:=.inr (tm p.1 p.2)
noncomputable def kVal (p:Int × Int):D:=.tup [.int p.1,.int p.2]
noncomputable def kDic (q:Nat):D:=.dic ((prs q).map kKey) ((prs q).map kVal)
theorem E_known2:R.m_known_terms [.int 2]=some (.ok (kDic 2)):=by kernel_rfl
theorem E_known3:R.m_known_terms [.int 3]=some (.ok (kDic 3)):=by kernel_rfl
theorem E_known5:R.m_known_terms [.int 5]=some (.ok (kDic 5)):=by kernel_rfl
theorem E_known {q:Nat} (h:q=2∨q=3∨q=5):R.m_known_terms [.int q]=some (.ok (kDic q)):=by
  rcases h with rfl | rfl | rfl
  · exact E_known2
  · exact E_known3
  · exact E_known5
noncomputable def fnd (q:Nat) (x:Str):Option (Int × Int):=(prs q).find? fun p=>decide (kKey p=.inr x)
theorem look_map {α:Type} (f:α→Key) (g:α→D) (k:Key):∀ L:List α,lookD k (L.map f) (L.map g)=(L.find? fun p=>decide (f p=k)).map g
  | []=>rfl
  | a :: L=>by
    rw [List.map_cons,List.map_cons,lookD,List.find?_cons]
    by_cases h:f a=k
    · rw [if_pos h,decide_eq_true h]; rfl
    · rw [if_neg h,decide_eq_false h,look_map f g k L]
theorem fnd_some {q:Nat} {x:Str} {p:Int × Int} (h:fnd q x=some p):p ∈ prs q∧tm p.1 p.2=x:=by
  refine ⟨List.mem_of_find?_eq_some h,?_⟩
  have:=List.find?_some h
  have e:kKey p=.inr x:=of_decide_eq_true this
  exact Sum.inr.inj e
theorem tm_inj5:∀ p ∈ prs 5,∀ p' ∈ prs 5,tm p.1 p.2=tm p'.1 p'.2→p=p':=by decide +kernel
theorem tm_inj {q:Nat} (h:q ≤ 5) {p p':Int × Int} (hp:p ∈ prs q) (hp':p' ∈ prs q) (e:tm p.1 p.2=tm p'.1 p'.2):p=p':=by
  refine tm_inj5 p ?_ p' ?_ e
  · have:=prs_mem.mp hp
    exact prs_mem.mpr (by omega)
  · have:=prs_mem.mp hp'
    exact prs_mem.mpr (by omega)
theorem fnd_tm {q:Nat} (h:q ≤ 5) {p:Int × Int} (hp:p ∈ prs q):fnd q (tm p.1 p.2)=some p:=by
  cases z:fnd q (tm p.1 p.2) with
  | none=>
    have:=List.find?_eq_none.mp z p hp
    exact absurd (decide_eq_true (rfl:kKey p=.inr (tm p.1 p.2))) this
  | some p'=>
    obtain ⟨h1,h2⟩:=fnd_some z
    rw [tm_inj h h1 hp h2]
noncomputable def rd (q:Nat):List Int→List Str→Option (List Int)
  | n,[]=>some n
  | n,t :: ts=>match fnd q t with
    | none=>none
    | some p=>if p.2 < n.length then none else rd q (n ++ List.replicate (p.2.toNat - n.length) 0 ++ [p.1]) ts
theorem rd_sound {q:Nat}:∀ (ts:List Str) (n m:List Int),Sm q n→n.length ≤ 9→rd q n ts=some m→Sm q m∧m.length ≤ 9∧tlow 0 m=tlow 0 n ++ ts
  | [],n,m,hn,hl,e=>by
    have:=Option.some.inj e
    subst this
    exact ⟨hn,hl,by simp⟩
  | t :: ts,n,m,hn,hl,e=>by
    rw [rd] at e
    cases z:fnd q t with
    | none=>rw [z] at e; cases e
    | some p=>
      rw [z] at e
      simp only at e
      split at e
      · cases e
      · rename_i c
        obtain ⟨h1,h2⟩:=fnd_some z
        have h3:=prs_mem.mp h1
        have hs:Sm q (n ++ List.replicate (p.2.toNat - n.length) 0 ++ [p.1]):=by
          refine Sm.snoc (fun x hx=>?_) ?_
          · rcases List.mem_append.mp hx with hx | hx
            · exact hn.1 x hx
            · rw [(List.mem_replicate.mp hx).2]; omega
          · omega
        obtain ⟨r1,r2,r3⟩:=rd_sound ts _ m hs (by simp; omega) e
        refine ⟨r1,r2,?_⟩
        have hp1:p.1 ≠ 0:=by omega
        rw [r3,tlow_app,tlow_app,tlow_zeros,List.append_nil,tlow,if_neg hp1,tlow]
        have ei:((0 + (n ++ List.replicate (p.2.toNat - n.length) (0:Int)).length:Nat):Int)=p.2:=by simp; omega
        rw [ei,h2]
        simp
theorem rd_full {q:Nat} (hq:q ≤ 5):∀ (r n:List Int) (z:Nat),Red q r→(r ≠ []→co r (r.length - 1) ≠ 0)→n.length + z + r.length ≤ 9→rd q n (tlow (n.length + z) r)=some (if r=[] then n else n ++ List.replicate z 0 ++ r)
  | [],n,z,_,_,_=>by simp [tlow,rd]
  | c :: r,n,z,hr,ht,hl=>by
    rw [List.length_cons] at hl
    have hr':Red q r:=fun x hx=>hr x (List.mem_cons_of_mem _ hx)
    have ht':r ≠ []→co r (r.length - 1) ≠ 0:=fun hne=>by
      have h1:=ht (by simp)
      have h2:=List.length_pos_iff.mpr hne
      rw [List.length_cons,show r.length + 1 - 1=(r.length - 1) + 1 by omega] at h1
      exact h1
    rw [tlow,if_neg (show ¬ (c :: r=[]) by simp)]
    by_cases hc:c=0
    · subst hc
      have hne:r ≠ []:=by
        rintro rfl
        exact ht (by simp) rfl
      have ih:=rd_full hq r n (z + 1) hr' ht' (by omega)
      rw [if_neg hne] at ih
      rw [if_pos rfl,List.nil_append,show n.length + z + 1=n.length + (z + 1) by omega,ih,List.replicate_succ']
      simp
    · have hc1:=hr c (by simp)
      rw [if_neg hc,List.cons_append,List.nil_append,rd]
      have hp:(c,((n.length + z:Nat):Int)) ∈ prs q:=prs_mem.mpr (by simp only; omega)
      have hf:=fnd_tm hq hp
      simp only at hf
      rw [hf]
      simp only
      rw [if_neg (by omega)]
      have e1:(((n.length + z:Nat):Int)).toNat - n.length=z:=by omega
      rw [e1]
      have ih:=rd_full hq r (n ++ List.replicate z 0 ++ [c]) 0 hr' ht' (by simp; omega)
      have e2:(n ++ List.replicate z (0:Int) ++ [c]).length + 0=n.length + z + 1:=by simp; omega
      rw [e2] at ih
      rw [ih]
      split
      · rename_i h; subst h; simp
      · simp
theorem rd_wr {q:Nat} (hq:q ≤ 5) (l:List Int) (hs:Sm q l) (hl:l.length ≤ 9):rd q [] (tlow 0 l)=some l:=by
  have:=rd_full hq l [] 0 hs.1 (fun h=>top_co hs.2 h) (by simpa using hl)
  simp at this
  rw [this]
  split
  · rename_i h; rw [h]
  · rfl
end PF
set_option Elab.async false
set_option linter.all false
set_option maxRecDepth 100000
set_option maxHeartbeats 4000000
namespace PF
open PySem L2 PA
open PySem.StrLaws
@[simp] theorem dMtS_e {β:Type} (op:Str→Str→M β) {fa fb:DS→M VR} {S:DS}:dMtS op fa fb S=mb (fa S) fun r1=>match toD r1 with
  | .str x=>mb (fb S) fun r2=>match toD r2 with
    | .str y=>op x y
    | _=>none
  | _=>none:=rfl
theorem opSplit_e {x y:Str} (h1:1 ≤ y.length) (h2:x.length ≤ 20000):opSplit x y=some (.ok ((Txt.split x y).map D.str)):=by
  unfold opSplit splitFit
  rw [if_pos (decide_eq_true ⟨h1,h2⟩)]
theorem E_with (n:List Int) (a i:Int) (hl:n.length ≤ 9) (hi:0 ≤ i) (hi2:i < 10):R.m_with_term_x [tupZ n,.int a,.int i]=if i < n.length then some (.error 2) else some (.ok (tupZ (n ++ List.replicate (i.toNat - n.length) 0 ++ [a]))):=by
  unfold R.m_with_term_x R.g_with_term_x
  by_cases c:i < n.length
  · simp [startN,tupZ,fin,c]
  · have e1:(i - (n.length:Int)).toNat=i.toNat - n.length:=by omega
    have ok:okRep 1 (i - (n.length:Int))=true:=by
      unfold okRep big
      simp
      omega
    have k1:n.length + (i.toNat - n.length) ≤ 100000:=by omega
    have k2:n.length + (i.toNat - n.length) ≤ 99999:=by omega
    simp [startN,tupZ,fin,c,dNoX,ok,rep0,e1,k1,k2]
theorem cDNot_k (q:Nat) (t:Str):cDNotIn (.str t) (kDic q)=some (.bl (!(fnd q t).isSome)):=by
  unfold cDNotIn kDic
  simp only [keyD,look_map,Option.isSome_map]
  rfl
theorem opGet_k (q:Nat) (t:Str):opGet (kDic q) (.str t)=(fnd q t).map kVal:=by
  unfold opGet kDic
  simp only [keyD,look_map]
  rfl
theorem S_read_no {q:Nat} {x t:Str} (n:List Int) (v5:Option Slot) (h:fnd q t=none) :
    R.b_read_x_1 R.m_known_terms R.m_with_term_x [some (Slot.val (D.str x)),some (Slot.val (D.int q)),some (Slot.val (kDic q)),some (Slot.val (tupZ n)),some (Slot.val (D.str t)),v5]=some (.ex 2):=by
  unfold R.b_read_x_1
  have h1:=cDNot_k q t
  rw [h] at h1
  simp [h1]
theorem S_read_yes {q:Nat} {x t:Str} (n:List Int) (v5:Option Slot) (p:Int × Int) (h:fnd q t=some p) (hl:n.length ≤ 9) :
    R.b_read_x_1 R.m_known_terms R.m_with_term_x [some (Slot.val (D.str x)),some (Slot.val (D.int q)),some (Slot.val (kDic q)),some (Slot.val (tupZ n)),some (Slot.val (D.str t)),v5] =
      if p.2 < n.length then some (.ex 2) else some (.next [some (Slot.val (D.str x)),some (Slot.val (D.int q)),some (Slot.val (kDic q)),some (Slot.val (tupZ (n ++ List.replicate (p.2.toNat - n.length) 0 ++ [p.1]))),some (Slot.val (D.str t)),some (Slot.val (kVal p))]):=by
  unfold R.b_read_x_1
  have h1:=cDNot_k q t
  have h2:=opGet_k q t
  rw [h] at h1 h2
  have h3:=prs_mem.mp (fnd_some h).1
  have h4:=E_with n p.1 p.2 hl h3.2.2.1 (by omega)
  have a0:opIx (kVal p) (.int 0)=some (.int p.1):=rfl
  have a1:opIx (kVal p) (.int 1)=some (.int p.2):=rfl
  by_cases c:p.2 < n.length
  · rw [if_pos c] at h4 ⊢
    simp [h1,h2,a0,a1,h4]
  · rw [if_neg c] at h4 ⊢
    simp [h1,h2,a0,a1,h4]
theorem L_read {q:Nat} (x:Str):∀ (ts:List Str) (n:List Int) (v4 v5:Option Slot),Sm q n→n.length ≤ 9 →
    (∃ m w4 w5,rd q n ts=some m∧loopD (sName 4) (R.b_read_x_1 R.m_known_terms R.m_with_term_x) (ts.map D.str) [some (Slot.val (D.str x)),some (Slot.val (D.int q)),some (Slot.val (kDic q)),some (Slot.val (tupZ n)),v4,v5]=some (.next [some (Slot.val (D.str x)),some (Slot.val (D.int q)),some (Slot.val (kDic q)),some (Slot.val (tupZ m)),w4,w5]))∨
    (rd q n ts=none∧loopD (sName 4) (R.b_read_x_1 R.m_known_terms R.m_with_term_x) (ts.map D.str) [some (Slot.val (D.str x)),some (Slot.val (D.int q)),some (Slot.val (kDic q)),some (Slot.val (tupZ n)),v4,v5]=some (.ex 2))
  | [],n,v4,v5,_,_=>.inl ⟨n,v4,v5,rfl,rfl⟩
  | t :: ts,n,v4,v5,hn,hl=>by
    have st:sName 4 (D.str t) [some (Slot.val (D.str x)),some (Slot.val (D.int q)),some (Slot.val (kDic q)),some (Slot.val (tupZ n)),v4,v5]=some [some (Slot.val (D.str x)),some (Slot.val (D.int q)),some (Slot.val (kDic q)),some (Slot.val (tupZ n)),some (Slot.val (D.str t)),v5]:=rfl
    rw [List.map_cons,rd]
    cases z:fnd q t with
    | none=>
      right
      refine ⟨rfl,?_⟩
      rw [loopD,st]
      simp only
      rw [S_read_no n v5 z]
    | some p=>
      have sy:=S_read_yes (x:=x) n v5 p z hl
      by_cases c:p.2 < n.length
      · right
        rw [if_pos c] at sy
        refine ⟨by simp [c],?_⟩
        rw [loopD,st]
        simp only
        rw [sy]
      · rw [if_neg c] at sy
        have h3:=prs_mem.mp (fnd_some z).1
        have hs:Sm q (n ++ List.replicate (p.2.toNat - n.length) 0 ++ [p.1]):=by
          refine Sm.snoc (fun y hy=>?_) (by omega)
          rcases List.mem_append.mp hy with hy | hy
          · exact hn.1 y hy
          · rw [(List.mem_replicate.mp hy).2]; omega
        rw [loopD_cons st sy]
        simp only [if_neg c]
        exact L_read x ts _ _ _ hs (by simp; omega)
noncomputable def told (q:Nat) (x:Str):Option (List Int):=if x = "0" then some [] else rd q [] (Txt.split x " + ").reverse
theorem E_read {q:Nat} (hq:q=2∨q=3∨q=5) {x:Str} (hx:PyData.strOk x=true) (hl:x.length ≤ 20000) :
    R.m_read_x [.str x,.int q]=match told q x with
      | some m=>some (.ok (tupZ m))
      | none=>some (.error 2):=by
  have hk:=E_known hq
  have ce:=cEq_str hx (show PyData.strOk ("0" : Str)=true by decide +kernel)
  have sp:=opSplit_e (x:=x) (y := " + ") (by rw [len_p]; decide) hl
  unfold R.m_read_x R.g_read_x told
  rw [startN_2]
  by_cases c:x = "0"
  · subst c
    simp [ce,tupZ_nil]
  · have cb:(x == ("0" : Str))=false:=by simpa using c
    rw [cb] at ce
    rw [if_neg c]
    rw [seq_next (S':=[some (Slot.val (D.str x)),some (Slot.val (D.int q)),none,none,none,none]) (by simp [ce])]
    rw [seq_next (S':=[some (Slot.val (D.str x)),some (Slot.val (D.int q)),some (Slot.val (kDic q)),none,none,none]) (by simp [hk])]
    rw [seq_next (S':=[some (Slot.val (D.str x)),some (Slot.val (D.int q)),some (Slot.val (kDic q)),some (Slot.val (tupZ ([]))),none,none]) (by simp [tupZ_nil])]
    have it:dRevL (dOf (dMtS opSplit (dVar 0) (dC (.str " + ")))) [some (Slot.val (D.str x)),some (Slot.val (D.int q)),some (Slot.val (kDic q)),some (Slot.val (tupZ ([]))),none,none]=some (.ok ((Txt.split x " + ").reverse.map D.str)):=by
      unfold dRevL
      simp [sp,revL]
    rcases L_read (q:=q) x (Txt.split x " + ").reverse [] none none ⟨fun _ h=>by simp at h,by simp [Top]⟩ (by simp) with ⟨m,w4,w5,h1,h2⟩ | ⟨h1,h2⟩
    · rw [h1]
      rw [seq_next (S':=[some (Slot.val (D.str x)),some (Slot.val (D.int q)),some (Slot.val (kDic q)),some (Slot.val (tupZ m)),w4,w5]) (by rw [dFor_e,it]; exact h2)]
      simp
    · rw [h1,dSeq_e,dFor_e,it]
      simp only [h2]
      rfl
theorem told_sound {q:Nat} {x:Str} {m:List Int} (h:told q x=some m):Sm q m∧m.length ≤ 9∧wr m=x:=by
  unfold told at h
  split at h
  · rename_i c
    have:=Option.some.inj h
    subst this
    exact ⟨⟨fun _ h=>by simp at h,by simp [Top]⟩,by simp,by rw [c]; rfl⟩
  · obtain ⟨h1,h2,h3⟩:=rd_sound _ [] m ⟨fun _ h=>by simp at h,by simp [Top]⟩ (by simp) h
    refine ⟨h1,h2,?_⟩
    have h4:tlow 0 m=(Txt.split x " + ").reverse:=by simpa [tlow] using h3
    have hne:m ≠ []:=by
      rintro rfl
      have:=PyProof.Rows.split_pos x " + "
      have e:=congrArg List.length h4
      simp [tlow] at e
      omega
    unfold wr
    rw [if_neg hne,tms_low,h4,List.reverse_reverse,join_split]
theorem tms_no {q:Nat} (hq0:0 < q) (hq:q ≤ 5) {l:List Int} (hr:Red q l) (hl:l.length ≤ 10):∀ k,∀ t ∈ tms l k,32 ∉ t.cps.toList
  | 0,t,ht=>by simp [tms] at ht
  | k + 1,t,ht=>by
    rw [tms] at ht
    rcases List.mem_append.mp ht with ht | ht
    · exact tms_no hq0 hq hr hl k t ht
    · split at ht
      · simp at ht
      · have hc:=co_red (p:=(q:Int)) (by omega) hr (l.length - 1 - k)
        have e:t=tm (co l (l.length - 1 - k)) ((l.length - 1 - k:Nat):Int):=by simpa using ht
        subst e
        exact tm_no hc.1 (by omega) (by omega) (by omega)
theorem split_wr {q:Nat} (hq0:0 < q) (hq:q ≤ 5) {l:List Int} (hs:Sm q l) (hne:l ≠ []) (hl:l.length ≤ 10):Txt.split (wr l) " + " = tms l l.length:=by
  unfold wr
  rw [if_neg hne]
  have:=tms_ne hs.2 hne
  have no:=tms_no hq0 hq hs.1 hl l.length
  cases z:tms l l.length with
  | nil=>exact absurd z this
  | cons t ts=>
    rw [z] at no
    exact split_join t ts no
theorem told_wr {q:Nat} (hq0:0 < q) (hq:q ≤ 5) {l:List Int} (hs:Sm q l) (hl:l.length ≤ 9):told q (wr l)=some l:=by
  unfold told
  by_cases hne:l=[]
  · subst hne
    rw [if_pos (show wr [] = "0" from rfl)]
  · have sw:=split_wr hq0 hq hs hne (by omega)
    rw [if_neg,sw,tms_low,List.reverse_reverse,rd_wr hq l hs hl]
    intro e
    rw [e] at sw
    have h1:Txt.split ("0" : Str) " + " = [("0" : Str)]:=by decide +kernel
    rw [h1,tms_low] at sw
    have h2:tlow 0 l=[("0" : Str)]:=by
      have:=congrArg List.reverse sw
      simpa using this.symm
    have h3:=rd_wr hq l hs hl
    rw [h2] at h3
    have h4:fnd q ("0" : Str)=none:=by
      cases z:fnd q ("0" : Str) with
      | none=>rfl
      | some p=>
        obtain ⟨z1,z2⟩:=fnd_some z
        have z3:=prs_mem.mp z1
        have:∀ p ∈ prs 5,tm p.1 p.2 ≠ "0" := by decide +kernel
        exact absurd z2 (this p (prs_mem.mpr (by omega)))
    simp [rd,h4] at h3
end PF
set_option Elab.async false
set_option linter.all false
set_option maxRecDepth 100000
set_option maxHeartbeats 4000000
namespace PF
open PySem L2 PA
open PySem.StrLaws
noncomputable def figL:List Nat→Option Int
  | []=>some 1
  | [c]=>if 48 ≤ c∧c ≤ 57 then some ((c:Int) - 48) else none
  | _=>none
noncomputable def fig (w:Str):Option Int:=figL w.cps.toList
noncomputable def figD:Option Int→D
  | none=>.non
  | some k=>.int k
theorem figL_ok {l:List Nat} {k:Int} (h:figL l=some k):0 ≤ k∧k < 10:=by
  match l,h with
  | [],h=>
    have:(1:Int)=k:=Option.some.inj h
    omega
  | [c],h=>
    have h':(if 48 ≤ c∧c ≤ 57 then some ((c:Int) - 48) else none)=some k:=h
    by_cases hc:48 ≤ c∧c ≤ 57
    · rw [if_pos hc] at h'
      have:=Option.some.inj h'
      omega
    · rw [if_neg hc] at h'; cases h'
theorem digs_list:("0123456789" : Str).cps.toList=[48,49,50,51,52,53,54,55,56,57]:=by decide +kernel
theorem find_no {c:Nat} (h:¬ (48 ≤ c∧c ≤ 57)):Txt.find ("0123456789" : Str) ⟨⟨[c]⟩⟩=-1:=by
  have e:=found_one ("0123456789" : Str) c
  have e2:decide (c ∈ ("0123456789" : Str).cps.toList)=false:=by
    rw [digs_list]
    apply decide_eq_false
    simp
    omega
  rw [e2] at e
  show (match Builtin.Str.occurrences ("0123456789" : Str) ⟨⟨[c]⟩⟩ 0 ("0123456789" : Str).length 1 with | i :: _=>(i:Int) | []=>-1)=-1
  cases z:Builtin.Str.occurrences ("0123456789" : Str) ⟨⟨[c]⟩⟩ 0 ("0123456789" : Str).length 1 with
  | nil=>rfl
  | cons a r=>
    have e':(!(Builtin.Str.occurrences ("0123456789" : Str) ⟨⟨[c]⟩⟩ 0 ("0123456789" : Str).length 1).isEmpty)=false:=e
    rw [z] at e'
    cases e'
theorem E_fig_d:∀ k:Fin 10,R.m_l_figure [.str ⟨⟨[48 + k.val]⟩⟩,.int 1]=some (.ok (.int k.val))
  | ⟨0,_⟩=>by kernel_rfl
  | ⟨1,_⟩=>by kernel_rfl
  | ⟨2,_⟩=>by kernel_rfl
  | ⟨3,_⟩=>by kernel_rfl
  | ⟨4,_⟩=>by kernel_rfl
  | ⟨5,_⟩=>by kernel_rfl
  | ⟨6,_⟩=>by kernel_rfl
  | ⟨7,_⟩=>by kernel_rfl
  | ⟨8,_⟩=>by kernel_rfl
  | ⟨9,_⟩=>by kernel_rfl
theorem E_fig_0:R.m_l_figure [.str ⟨⟨[]⟩⟩,.int 1]=some (.ok (.int 1)):=by kernel_rfl
theorem E_figure {w:Str} (hw:PyData.strOk w=true) (hl:w.length ≤ 20000):R.m_l_figure [.str w,.int 1]=some (.ok (figD (fig w))):=by
  obtain ⟨⟨l⟩⟩:=w
  match l,hw,hl with
  | [],hw,hl=>exact E_fig_0
  | [c],hw,hl=>
    by_cases h:48 ≤ c∧c ≤ 57
    · have e:=E_fig_d ⟨c - 48,by omega⟩
      have e1:48 + (c - 48)=c:=by omega
      simp only [e1] at e
      rw [e]
      show _=some (Except.ok (figD (if 48 ≤ c∧c ≤ 57 then some ((c:Int) - 48) else none)))
      rw [if_pos h]
      show some (Except.ok (D.int ((c - 48:Nat):Int)))=some (.ok (.int ((c:Int) - 48)))
      congr 3
      omega
    · have ce:=cEq_str hw strOk_0
      have nb:((⟨⟨[c]⟩⟩:Str) == ("" : Str))=false:=by
        rw [beq_eq_false_iff_ne]
        intro q
        have:=congrArg Str.length q
        rw [len_0] at this
        cases this
      rw [nb] at ce
      have hlen:(⟨⟨[c]⟩⟩:Str).length=1:=rfl
      have f:=find_no h
      show R.m_l_figure [.str ⟨⟨[c]⟩⟩,.int 1]=some (.ok (figD (if 48 ≤ c∧c ≤ 57 then some ((c:Int) - 48) else none)))
      rw [if_neg h]
      unfold R.m_l_figure R.g_l_figure
      simp [ce,hlen,opFind,f,figD]
  | c :: d :: r,hw,hl=>
    have ce:=cEq_str hw strOk_0
    have hlen:(⟨⟨c :: d :: r⟩⟩:Str).length=r.length + 2:=rfl
    have nb:((⟨⟨c :: d :: r⟩⟩:Str) == ("" : Str))=false:=by
      rw [beq_eq_false_iff_ne]
      intro q
      have:=congrArg Str.length q
      rw [len_0,hlen] at this
      omega
    rw [nb] at ce
    rw [hlen] at hl
    have k1:r.length + 2 ≤ 100000:=by omega
    have k2:(1:Int) < (r.length:Int) + 2:=by omega
    show R.m_l_figure [.str ⟨⟨c :: d :: r⟩⟩,.int 1]=some (.ok .non)
    unfold R.m_l_figure R.g_l_figure
    simp [ce,hlen,k1,k2]
noncomputable def plc (p:Str):Option Int:=if (Txt.partition p "x").2.1 = "x" then fig (Txt.partition p "x").2.2 else some 0
noncomputable def stp (l:List Int) (p:Str):Option (List Int):=match plc p,fig (Txt.partition p "x").1 with
  | some i,some k=>some (l.set i.toNat k)
  | _,_=>none
noncomputable def dueL:List Int→List Str→Option (List Int)
  | l,[]=>some l
  | l,p :: ps=>match stp l p with
    | some m=>dueL m ps
    | none=>none
theorem plc_ok {p:Str} {i:Int} (h:plc p=some i):0 ≤ i∧i < 10:=by
  unfold plc at h
  split at h
  · exact figL_ok h
  · have:=Option.some.inj h
    omega
theorem part_lens (x y:Str):(Txt.partition x y).1.length ≤ x.length∧(Txt.partition x y).2.2.length ≤ x.length:=by
  have e:=congrArg Str.length (partition_sum x y)
  rw [Str.length_append,Str.length_append] at e
  omega
noncomputable abbrev dueB:DS→Option Fl:=R.b_l_due_1 R.m_l_figure R.m_l_is_sum R.m_l_written
theorem S_due (x p:Str) (q:Nat) (l:List Int) (v4 v5 v6 v7 v8 v9:Option Slot) (hp:PyData.strOk p=true) (hl:p.length ≤ 20000) (h10:l.length=10) :
    (∃ m w4 w5 w6 w7 w8,stp l p=some m∧m.length=10∧dueB [some (Slot.val (D.str x)),some (Slot.val (D.int q)),some (Slot.own (List.map D.int l)),some (Slot.val (D.str p)),v4,v5,v6,v7,v8,v9]=some (.next [some (Slot.val (D.str x)),some (Slot.val (D.int q)),some (Slot.own (List.map D.int m)),some (Slot.val (D.str p)),w4,w5,w6,w7,w8,v9]))∨
    (stp l p=none∧dueB [some (Slot.val (D.str x)),some (Slot.val (D.int q)),some (Slot.own (List.map D.int l)),some (Slot.val (D.str p)),v4,v5,v6,v7,v8,v9]=some (.ret .non)):=by
  obtain ⟨o1,o2,o3⟩:=part_oks (y := "x") hp
  obtain ⟨n1,n2⟩:=part_lens p "x"
  have f1:=E_figure o1 (by omega)
  have f3:=E_figure o3 (by omega)
  have ce:=cEq_str o2 (show PyData.strOk ("x" : Str)=true by decide +kernel)
  have op:opPart p "x" = some (.ok (.ok (.tup [.str (Txt.partition p "x").1,.str (Txt.partition p "x").2.1,.str (Txt.partition p "x").2.2]))):=by
    unfold opPart
    rw [if_pos ⟨by rw [len_x]; decide,hl⟩]
  have pk:∀ i,plc p=some i→0 ≤ i∧i < 10:=fun i=>plc_ok
  unfold stp
  unfold plc at pk ⊢
  generalize Txt.partition p "x" = P at *
  obtain ⟨h,s,b⟩:=P
  simp only at *
  have hplace:∀ S:DS,S[5]?=some (some (Slot.val (D.str s)))→S[6]?=some (some (Slot.val (D.str b)))→dIfE (dtB (dBin cEq (dVar 5) (dC (.str "x")))) (dCall 2 R.m_l_figure (dCons (dVar 6) (dCons (dC (.int 1)) dNil))) (dC (.int 0)) S=some (.ok (.ok (figD (if s = "x" then fig b else some 0)))):=fun S s5 s6=>by
    by_cases c:s = "x"
    · subst c
      have ce':cEq (.str "x") (.str "x")=some (.bl true):=by rw [ce]; simp
      simp [s5,s6,ce',f3]
    · have cb:(s == ("x" : Str))=false:=by simpa using c
      rw [cb] at ce
      simp [s5,s6,ce,c,figD]
  generalize hpl:(if s=("x" : Str) then fig b else some 0)=pl at *
  cases pl with
  | none=>
    right
    refine ⟨rfl,?_⟩
    unfold dueB R.b_l_due_1
    rw [seq_next (S':=[some (Slot.val (D.str x)),some (Slot.val (D.int q)),some (Slot.own (List.map D.int l)),some (Slot.val (D.str p)),some (Slot.val (D.str h)),some (Slot.val (D.str s)),some (Slot.val (D.str b)),v7,v8,v9]) (by simp [dUnp,op])]
    rw [seq_next (S':=[some (Slot.val (D.str x)),some (Slot.val (D.int q)),some (Slot.own (List.map D.int l)),some (Slot.val (D.str p)),some (Slot.val (D.str h)),some (Slot.val (D.str s)),some (Slot.val (D.str b)),some (Slot.val D.non),v8,v9]) (by rw [dSet_e,hplace _ rfl rfl]; rfl)]
    rw [seq_next (S':=[some (Slot.val (D.str x)),some (Slot.val (D.int q)),some (Slot.own (List.map D.int l)),some (Slot.val (D.str p)),some (Slot.val (D.str h)),some (Slot.val (D.str s)),some (Slot.val (D.str b)),some (Slot.val D.non),some (Slot.val (figD (fig h))),v9]) (by simp [f1])]
    simp
  | some i=>
    cases hk:fig h with
    | none=>
      right
      refine ⟨rfl,?_⟩
      rw [hk] at f1
      unfold dueB R.b_l_due_1
      rw [seq_next (S':=[some (Slot.val (D.str x)),some (Slot.val (D.int q)),some (Slot.own (List.map D.int l)),some (Slot.val (D.str p)),some (Slot.val (D.str h)),some (Slot.val (D.str s)),some (Slot.val (D.str b)),v7,v8,v9]) (by simp [dUnp,op])]
      rw [seq_next (S':=[some (Slot.val (D.str x)),some (Slot.val (D.int q)),some (Slot.own (List.map D.int l)),some (Slot.val (D.str p)),some (Slot.val (D.str h)),some (Slot.val (D.str s)),some (Slot.val (D.str b)),some (Slot.val (D.int i)),v8,v9]) (by rw [dSet_e,hplace _ rfl rfl]; rfl)]
      rw [seq_next (S':=[some (Slot.val (D.str x)),some (Slot.val (D.int q)),some (Slot.own (List.map D.int l)),some (Slot.val (D.str p)),some (Slot.val (D.str h)),some (Slot.val (D.str s)),some (Slot.val (D.str b)),some (Slot.val (D.int i)),some (Slot.val D.non),v9]) (by simp [f1,figD])]
      simp
    | some k=>
      left
      rw [hk] at f1
      have hi:=pk i rfl
      have ix:ixN (l.map D.int).length i=some i.toNat:=by
        unfold ixN
        rw [if_pos (by omega),if_pos (by rw [List.length_map]; omega)]
      refine ⟨l.set i.toNat k,some (Slot.val (D.str h)),some (Slot.val (D.str s)),some (Slot.val (D.str b)),some (Slot.val (D.int i)),some (Slot.val (D.int k)),rfl,by simp [h10],?_⟩
      unfold dueB R.b_l_due_1
      rw [seq_next (S':=[some (Slot.val (D.str x)),some (Slot.val (D.int q)),some (Slot.own (List.map D.int l)),some (Slot.val (D.str p)),some (Slot.val (D.str h)),some (Slot.val (D.str s)),some (Slot.val (D.str b)),v7,v8,v9]) (by simp [dUnp,op])]
      rw [seq_next (S':=[some (Slot.val (D.str x)),some (Slot.val (D.int q)),some (Slot.own (List.map D.int l)),some (Slot.val (D.str p)),some (Slot.val (D.str h)),some (Slot.val (D.str s)),some (Slot.val (D.str b)),some (Slot.val (D.int i)),v8,v9]) (by rw [dSet_e,hplace _ rfl rfl]; rfl)]
      rw [seq_next (S':=[some (Slot.val (D.str x)),some (Slot.val (D.int q)),some (Slot.own (List.map D.int l)),some (Slot.val (D.str p)),some (Slot.val (D.str h)),some (Slot.val (D.str s)),some (Slot.val (D.str b)),some (Slot.val (D.int i)),some (Slot.val (D.int k)),v9]) (by simp [f1,figD])]
      rw [List.length_map] at ix
      simp [ix,List.map_set]
end PF
set_option Elab.async false
set_option linter.all false
set_option maxRecDepth 100000
set_option maxHeartbeats 4000000
namespace PF
open PySem L2 PA
open PySem.StrLaws
theorem L_due (x:Str) (q:Nat):∀ (ps:List Str) (l:List Int) (v3 v4 v5 v6 v7 v8 v9:Option Slot),(∀ p ∈ ps,PyData.strOk p=true∧p.length ≤ 20000)→l.length=10→
    (∃ m w3 w4 w5 w6 w7 w8,dueL l ps=some m∧m.length=10∧loopD (sName 3) dueB (ps.map D.str) [some (Slot.val (D.str x)),some (Slot.val (D.int q)),some (Slot.own (List.map D.int l)),v3,v4,v5,v6,v7,v8,v9]=some (.next [some (Slot.val (D.str x)),some (Slot.val (D.int q)),some (Slot.own (List.map D.int m)),w3,w4,w5,w6,w7,w8,v9]))∨
    (dueL l ps=none∧loopD (sName 3) dueB (ps.map D.str) [some (Slot.val (D.str x)),some (Slot.val (D.int q)),some (Slot.own (List.map D.int l)),v3,v4,v5,v6,v7,v8,v9]=some (.ret .non))
  | [],l,v3,v4,v5,v6,v7,v8,v9,_,h10=>.inl ⟨l,v3,v4,v5,v6,v7,v8,rfl,h10,rfl⟩
  | p :: ps,l,v3,v4,v5,v6,v7,v8,v9,hp,h10=>by
    have st:sName 3 (D.str p) [some (Slot.val (D.str x)),some (Slot.val (D.int q)),some (Slot.own (List.map D.int l)),v3,v4,v5,v6,v7,v8,v9]=some [some (Slot.val (D.str x)),some (Slot.val (D.int q)),some (Slot.own (List.map D.int l)),some (Slot.val (D.str p)),v4,v5,v6,v7,v8,v9]:=rfl
    have h1:=hp p (by simp)
    rw [List.map_cons,dueL]
    rcases S_due x p q l v4 v5 v6 v7 v8 v9 h1.1 h1.2 h10 with ⟨m,w4,w5,w6,w7,w8,e1,e2,e3⟩ | ⟨e1,e3⟩
    · rw [loopD_cons st e3,e1]
      exact L_due x q ps m _ _ _ _ _ _ _ (fun p hp'=>hp p (List.mem_cons_of_mem _ hp')) e2
    · right
      rw [e1]
      refine ⟨rfl,?_⟩
      rw [loopD,st]
      simp only
      rw [e3]
theorem L_due_trim (s0 s1 v3 v4 v5 v6 v7 v8 v9:Option Slot):∀ (l:List Int) (f:Nat),l.length < f→∃ r,Nm l r∧whileD (R.c_l_due_2 R.m_l_figure R.m_l_is_sum R.m_l_written) (R.b_l_due_3 R.m_l_figure R.m_l_is_sum R.m_l_written) f [s0,s1,some (Slot.own (List.map D.int l)),v3,v4,v5,v6,v7,v8,v9]=some (.next [s0,s1,some (Slot.own (List.map D.int r)),v3,v4,v5,v6,v7,v8,v9]):=fun l=>by
  induction h:l.length generalizing l with
  | zero=>
    intro f hf
    have hl:=List.eq_nil_of_length_eq_zero h
    subst hl
    obtain ⟨f',rfl⟩:∃ f',f=f' + 1:=⟨f - 1,by omega⟩
    exact ⟨[],⟨0,Nat.le_refl _,rfl,fun k _=>by simp [co],by simp [Top]⟩,while_f (by simp [R.c_l_due_2,cNe,dep,deps,deq,deqs])⟩
  | succ m ih=>
    intro f hf
    obtain ⟨f',rfl⟩:∃ f',f=f' + 1:=⟨f - 1,by omega⟩
    have hne:l ≠ []:=by rintro rfl; simp at h
    have e:=atI_intsL hne
    have e1:l.length - 1=m:=by omega
    rw [e1] at e
    by_cases c:co l m=0
    · have hd:l.dropLast.length=m:=by simp; omega
      obtain ⟨r,⟨n,g1,g2,g3,g4⟩,g5⟩:=ih l.dropLast hd f' (by omega)
      refine ⟨r,⟨n,by omega,?_,fun k hk=>?_,g4⟩,?_⟩
      · rw [g2,List.dropLast_eq_take,List.take_take,Nat.min_eq_left (by omega)]
      · by_cases k1:k < m
        · have:=g3 k hk
          rw [getD_lt (by omega)] at this
          rw [getD_lt (by omega),← this,List.getElem_dropLast]
        · by_cases k2:k=m
          · subst k2; exact c
          · exact getD_ge (by omega)
      · have hl0:¬ l.length=0:=by omega
        rw [while_t (S2:=[s0,s1,some (Slot.own (List.map D.int l.dropLast)),v3,v4,v5,v6,v7,v8,v9]) (by simp [R.c_l_due_2,hne,e,c]) (by simp [R.b_l_due_3,dPop,hl0,hne,List.map_dropLast]),g5]
    · refine ⟨l,⟨l.length,Nat.le_refl _,by simp,fun k hk=>getD_ge hk,?_⟩,while_f (by simp [R.c_l_due_2,hne,e,c])⟩
      have:=top_take (l:=l) (n:=l.length) (Nat.le_refl _) (.inr (by rw [e1]; exact c))
      simpa using this
theorem Nm.uniq {l r s:List Int} (h:Nm l r) (h':Nm l s):r=s:=by
  have key:∀ {r s:List Int} {n m:Nat},n ≤ l.length→r=l.take n→(∀ k,n ≤ k→co l k=0)→m ≤ l.length→s=l.take m→Top s→m ≤ n:=fun {r s n m} a1 a2 a3 b1 b2 b3=>by
    apply Classical.byContradiction
    intro c
    apply b3
    rw [b2,List.getLast?_eq_getElem?,List.length_take,Nat.min_eq_left b1,List.getElem?_take_of_lt (by omega),List.getElem?_eq_getElem (by omega)]
    have:=a3 (m - 1) (by omega)
    rw [getD_lt (by omega)] at this
    rw [this]
  obtain ⟨n,a1,a2,a3,a4⟩:=h
  obtain ⟨m,b1,b2,b3,b4⟩:=h'
  have k1:=key a1 a2 a3 b1 b2 b4
  have k2:=key b1 b2 b3 a1 a2 a4
  rw [a2,b2,show n=m by omega]
theorem cNe_str {x y:Str} (hx:PyData.strOk x=true) (hy:PyData.strOk y=true):cNe (.str x) (.str y)=some (.bl (!(x == y))):=by
  unfold cNe
  rw [if_pos (by simp [dep,hx,hy])]
  rw [deq]
theorem E_due {q:Nat} (hq0:0 < q) (hq:q ≤ 5) {x:Str} (hx:PyData.strOk x=true) (hl:x.length ≤ 20000) :
    (∃ m r,dueL (List.replicate 10 0) (Txt.split x " + ")=some m∧Nm m r∧R.m_l_due [.str x,.int q]=some (.ok (if isSumD q (tupZ r)=true∧wr r=x then tupZ r else .non)))∨
    (dueL (List.replicate 10 0) (Txt.split x " + ")=none∧R.m_l_due [.str x,.int q]=some (.ok .non)):=by
  have sp:=opSplit_e (x:=x) (y := " + ") (by rw [len_p]; decide) hl
  have it:dIter (dOf (dMtS opSplit (dVar 0) (dC (.str " + ")))) [some (Slot.val (D.str x)),some (Slot.val (D.int q)),some (Slot.own (List.map D.int ((List.replicate 10 (0:Int))))),none,none,none,none,none,none,none]=some (.ok ((Txt.split x " + ").map D.str)):=by simp [sp]
  have hp:∀ p ∈ Txt.split x " + ",PyData.strOk p=true∧p.length ≤ 20000:=fun p hp=>⟨split_ok hx hp,Nat.le_trans (PyProof.Rows.part_short hp) hl⟩
  unfold R.m_l_due R.g_l_due
  rw [startN_2]
  rw [seq_next (S':=[some (Slot.val (D.str x)),some (Slot.val (D.int q)),some (Slot.own (List.map D.int ((List.replicate 10 (0:Int))))),none,none,none,none,none,none,none]) (by rfl)]
  rcases L_due x q (Txt.split x " + ") (List.replicate 10 0) none none none none none none none hp (by simp) with ⟨m,w3,w4,w5,w6,w7,w8,e1,e2,e3⟩ | ⟨e1,e3⟩
  · left
    obtain ⟨r,t1,t2⟩:=L_due_trim (some (Slot.val (D.str x))) (some (Slot.val (D.int q))) w3 w4 w5 w6 w7 w8 none m 200 (by omega)
    refine ⟨m,r,e1,t1,?_⟩
    rw [seq_next (S':=[some (Slot.val (D.str x)),some (Slot.val (D.int q)),some (Slot.own (List.map D.int m)),w3,w4,w5,w6,w7,w8,none]) (by rw [dFor_e,it]; exact e3)]
    rw [seq_next t2]
    rw [seq_next (S':=[some (Slot.val (D.str x)),some (Slot.val (D.int q)),some (Slot.own (List.map D.int r)),w3,w4,w5,w6,w7,w8,some (Slot.val (tupZ r))]) (by simp [tupZ])]
    have rl:=t1.len
    have f:=E_lsum (tupZ r) (q:Int) (Fine_Z (by omega))
    cases z:isSumD q (tupZ r) with
    | false=>
      rw [z] at f
      simp [f]
    | true=>
      rw [z] at f
      obtain ⟨r',er,sr,lr⟩:=isSum_inv z
      have er':r=r':=by
        have:D.tup (r.map D.int)=D.tup (r'.map D.int):=er
        have:=D.tup.inj this
        exact (List.map_inj_right (fun a b h=>D.int.inj h)).mp this
      subst er'
      have w:=E_l_written (p:=(q:Int)) (by omega) (by omega) r sr (by omega)
      have cn:=cNe_str (wr_ok (p:=(q:Int)) (by omega) (by omega) sr.1 (by omega)) hx
      by_cases c:wr r=x
      · have cb:(wr r == x)=true:=by simpa using c
        rw [cb] at cn
        rw [if_pos ⟨rfl,c⟩]
        simp [f,w,cn]
      · have cb:(wr r == x)=false:=by simpa using c
        rw [cb] at cn
        rw [if_neg (fun h=>c h.2)]
        simp [f,w,cn]
  · right
    refine ⟨e1,?_⟩
    rw [dSeq_e,dFor_e,it]
    have e3':loopD (sName 3) (R.b_l_due_1 R.m_l_figure R.m_l_is_sum R.m_l_written) ((Txt.split x " + ").map D.str) [some (Slot.val (D.str x)),some (Slot.val (D.int q)),some (Slot.own (List.map D.int ((List.replicate 10 (0:Int))))),none,none,none,none,none,none,none]=some (.ret .non):=e3
    simp only [e3']
    rfl
theorem stp_tm5:∀ p ∈ prs 5,plc (tm p.1 p.2)=some p.2∧fig (Txt.partition (tm p.1 p.2) "x").1=some p.1:=by decide +kernel
theorem stp_tm {q:Nat} (hq:q ≤ 5) (l:List Int) {c i:Int} (hp:(c,i) ∈ prs q):stp l (tm c i)=some (l.set i.toNat c):=by
  have h:=prs_mem.mp hp
  have:=stp_tm5 (c,i) (prs_mem.mpr (by simp only at h ⊢; omega))
  unfold stp
  simp only at this
  rw [this.1,this.2]
theorem dueL_app:∀ (l:List Int) (ps qs:List Str),dueL l (ps ++ qs)=(dueL l ps).bind fun m=>dueL m qs
  | l,[],qs=>rfl
  | l,p :: ps,qs=>by
    rw [List.cons_append,dueL,dueL]
    cases stp l p with
    | none=>rfl
    | some m=>exact dueL_app m ps qs
theorem co_set {l:List Int} {i k:Nat} {c:Int} (h:i < l.length):co (l.set i c) k=if k=i then c else co l k:=by
  unfold co
  simp only [List.getD_eq_getElem?_getD,List.getElem?_set]
  by_cases e:i=k
  · subst e; simp [h]
  · rw [if_neg e,if_neg (fun z=>e z.symm)]
theorem co_zeros (k:Nat):co (List.replicate 10 (0:Int)) k=0:=by
  unfold co
  simp only [List.getD_eq_getElem?_getD,List.getElem?_replicate]
  split <;> rfl
theorem dueL_tms {q:Nat} (hq:q ≤ 5) {l:List Int} (hr:Red q l) (hq0:0 < q) (hl:l.length ≤ 9):∀ k,k ≤ l.length→∃ m,dueL (List.replicate 10 0) (tms l k)=some m∧m.length=10∧∀ j,co m j=if l.length - k ≤ j then co l j else 0
  | 0,_=>⟨_,rfl,by simp,fun j=>by
    rw [co_zeros]
    split
    · rw [getD_ge (by omega)]
    · rfl⟩
  | k + 1,hk=>by
    obtain ⟨m,h1,h2,h3⟩:=dueL_tms hq hr hq0 hl k (by omega)
    rw [tms]
    have hc:=co_red (p:=(q:Int)) (by omega) hr (l.length - 1 - k)
    by_cases c:co l (l.length - 1 - k)=0
    · rw [if_pos c,List.append_nil]
      refine ⟨m,h1,h2,fun j=>?_⟩
      rw [h3 j]
      by_cases e:j=l.length - 1 - k
      · subst e
        rw [if_neg (by omega),if_pos (by omega),c]
      · by_cases e2:l.length - k ≤ j
        · rw [if_pos e2,if_pos (by omega)]
        · rw [if_neg e2,if_neg (by omega)]
    · rw [if_neg c,dueL_app,h1]
      have st:=stp_tm hq m (c:=co l (l.length - 1 - k)) (i:=((l.length - 1 - k:Nat):Int)) (prs_mem.mpr (by simp only; omega))
      refine ⟨m.set (l.length - 1 - k) (co l (l.length - 1 - k)),?_,by simp [h2],fun j=>?_⟩
      · show dueL m [tm _ _]=_
        rw [dueL,st]
        rfl
      · rw [co_set (by omega),h3 j]
        by_cases e:j=l.length - 1 - k
        · subst e
          rw [if_pos rfl,if_pos (by omega)]
        · rw [if_neg e]
          by_cases e2:l.length - k ≤ j
          · rw [if_pos e2,if_pos (by omega)]
          · rw [if_neg e2,if_neg (by omega)]
theorem dueL_wr {q:Nat} (hq0:0 < q) (hq:q ≤ 5) {l:List Int} (hs:Sm q l) (hl:l.length ≤ 9):∃ m,dueL (List.replicate 10 0) (Txt.split (wr l) " + ")=some m∧Nm m l:=by
  by_cases hne:l=[]
  · subst hne
    refine ⟨List.replicate 10 0,?_,0,by simp,rfl,fun k _=>co_zeros k,by simp [Top]⟩
    have e:wr [] = "0" := rfl
    rw [e]
    decide +kernel
  · rw [split_wr hq0 hq hs hne (by omega)]
    obtain ⟨m,h1,h2,h3⟩:=dueL_tms hq hs.1 hq0 hl l.length (Nat.le_refl _)
    refine ⟨m,h1,l.length,by omega,?_,fun k hk=>?_,hs.2⟩
    · apply List.ext_getElem
      · simp; omega
      · intro j j1 j2
        have:=h3 j
        rw [if_pos (by omega),getD_lt (by simp at j2; omega),getD_lt j1] at this
        rw [List.getElem_take,this]
    · rw [h3 k,if_pos (by omega),getD_ge hk]
end PF
set_option Elab.async false
set_option linter.all false
set_option maxRecDepth 100000
set_option maxHeartbeats 4000000
namespace PF
open PySem L2 PA
open PySem.StrLaws
noncomputable def Ws (n:Nat) (l:List Str):Prop:=(∀ p ∈ l,PyData.strOk p=true)∧(l.map (·.length)).sum + l.length ≤ n
theorem cut_map {α β:Type} (f:α→β) (l:List α) (lo hi:Option Int):cutD (l.map f) lo hi=(cutD l lo hi).map f:=by
  unfold cutD
  rw [List.length_map,List.map_take,List.map_drop]
theorem sum_sub {l m:List Str} (h:List.Sublist l m):(l.map (·.length)).sum + l.length ≤ (m.map (·.length)).sum + m.length:=by
  induction h with
  | slnil=>simp
  | cons a _ ih=>simp; omega
  | cons_cons a _ ih=>simp; omega
theorem cut_sub {α:Type} (l:List α) (lo hi:Option Int):List.Sublist (cutD l lo hi) l:=by
  unfold cutD
  exact (List.take_sublist _ _).trans (List.drop_sublist _ _)
theorem Ws.cut {n:Nat} {l:List Str} (h:Ws n l) (lo hi:Option Int):Ws n (cutD l lo hi):=
  ⟨fun p hp=>h.1 p (mem_cutD hp),Nat.le_trans (sum_sub (cut_sub l lo hi)) h.2⟩
theorem Ws.app {n m:Nat} {l r:List Str} (h:Ws n l) (h':Ws m r):Ws (n + m) (l ++ r):=by
  refine ⟨fun p hp=>?_,?_⟩
  · rcases List.mem_append.mp hp with z | z
    · exact h.1 p z
    · exact h'.1 p z
  · have:=h.2
    have:=h'.2
    simp
    omega
theorem Ws.one {w:Str} (h:PyData.strOk w=true):Ws (w.length + 1) [w]:=⟨fun p hp=>by rw [List.mem_singleton.mp hp]; exact h,by simp⟩
theorem len_sp:(" " : Str).length=1:=by decide +kernel
theorem ok_sp:PyData.strOk (" " : Str)=true:=by decide +kernel
theorem Ws.split {x:Str} (h:PyData.strOk x=true):Ws (x.length + 1) (Txt.split x " "):=
  ⟨fun p hp=>split_ok h hp,PyProof.Rows.split_weight x " " (by rw [len_sp]; decide)⟩
theorem Ws.len {n:Nat} {l:List Str} (h:Ws n l):l.length ≤ n:=by have:=h.2; omega
theorem Ws.join {n:Nat} {l:List Str} (h:Ws n l) (hn:n ≤ 100000):opJoin " " (.lst (l.map D.str))=some (.str (Txt.join " " l))∧PyData.strOk (Txt.join " " l)=true∧(Txt.join " " l).length ≤ n:=by
  have e:Txt.join " " l=Str.join " " l:=StrLaws.glued_eq_join _ _
  refine ⟨opJoin_map " " l (decide_eq_true ⟨by rw [len_sp]; decide,by have:=h.2; omega⟩),?_,?_⟩
  · rw [e]; exact join_oks ok_sp h.1
  · rw [e]
    cases l with
    | nil=>
      show Str.empty.length ≤ n
      exact Nat.zero_le _
    | cons a l=>
      rw [PyProof.Rows.len_join_cons,len_sp]
      have:=h.2
      simp only [List.length_cons] at this
      omega
theorem add_lst {a b:List Str} (h:a.length + b.length ≤ 100000):opAdd (.lst (a.map D.str)) (.lst (b.map D.str))=some (.lst ((a ++ b).map D.str)):=by
  rw [opAdd_lst,List.length_map,List.length_map,if_pos h,List.map_append]
theorem slice_lst (l:List Str) (lo hi:Option Int):sliceD (.lst (l.map D.str)) lo hi=some (.lst ((cutD l lo hi).map D.str)):=by rw [sliceD_lst,cut_map]
theorem sign_at {j:Int} (h0:0 ≤ j) (h1:j < 19):∃ c:Str,opIx (.str " 0123456789xx+-_X\n\t") (.int j)=some (.str c)∧PyData.strOk c=true∧c.length=1:=by
  have hl:(" 0123456789xx+-_X\n\t" : Str).cps.toList.length=19:=by decide +kernel
  have hl2:(" 0123456789xx+-_X\n\t" : Str).length ≤ big:=by decide +kernel
  have hk:PyData.strOk (" 0123456789xx+-_X\n\t" : Str)=true:=by decide +kernel
  generalize (" 0123456789xx+-_X\n\t" : Str)=x at *
  have e:atI x.cps.toList j=some (x.cps.toList[j.toNat]'(by omega)):=by
    rw [atI_nat' h0,List.getElem?_eq_getElem (by omega)]
  refine ⟨⟨#[x.cps.toList[j.toNat]'(by omega)]⟩,?_,ok_iff.mpr fun c hc=>?_,rfl⟩
  · show (if x.length ≤ big then (atI x.cps.toList j).map fun c=>D.str ⟨#[c]⟩ else none)=_
    rw [if_pos hl2,e]; rfl
  · have:c=x.cps.toList[j.toNat]'(by omega):=by simpa using hc
    rw [this]
    exact ok_iff.mp hk _ (List.getElem_mem _)
theorem some_words:Txt.split ("+ 0 1 x x1 1x x0 2x2 x9 0x 4 xx" : Str) " " = [("+" : Str), "0", "1", "x", "x1", "1x", "x0", "2x2", "x9", "0x", "4", "xx"]:=by decide +kernel
theorem word_at {j:Int} (h0:0 ≤ j) (h1:j < 12):∃ w:Str,opIx (.lst ((Txt.split ("+ 0 1 x x1 1x x0 2x2 x9 0x 4 xx" : Str) " ").map D.str)) (.int j)=some (.str w)∧PyData.strOk w=true∧w.length ≤ 3:=by
  rw [some_words]
  have hk:∀ w ∈ [("+" : Str), "0", "1", "x", "x1", "1x", "x0", "2x2", "x9", "0x", "4", "xx"],PyData.strOk w=true∧w.length ≤ 3:=by decide +kernel
  have hl:[("+" : Str), "0", "1", "x", "x1", "1x", "x0", "2x2", "x9", "0x", "4", "xx"].length=12:=rfl
  generalize [("+" : Str), "0", "1", "x", "x1", "1x", "x0", "2x2", "x9", "0x", "4", "xx"]=l at *
  refine ⟨l[j.toNat]'(by omega),?_,hk _ (List.getElem_mem _)⟩
  show atI (l.map D.str) j=_
  rw [atI_nat' h0,List.getElem?_map,List.getElem?_eq_getElem (by omega)]; rfl
theorem sl_len (x:Str) (lo hi:Option Int):(Txt.slice x lo hi).length ≤ x.length:=Txt.slice_le x _ _
theorem E_changed {x:Str} (hx:PyData.strOk x=true) (hl:x.length ≤ 4900) (n:Int) (hn:0 ≤ n):∃ y,R.m_l_changed [.str x,.int n]=some (.ok (.str y))∧PyData.strOk y=true∧y.length ≤ 4 * (x.length + 2):=by
  obtain ⟨W,hW⟩:∃ W,W=Txt.split x " " := ⟨_,rfl⟩
  have ws:Ws (x.length + 1) W:=by rw [hW]; exact Ws.split hx
  have wp:1 ≤ W.length:=by rw [hW]; exact PyProof.Rows.split_pos x " "
  have wl:=ws.len
  have os:opSplit x " " = some (.ok (W.map D.str)):=by rw [hW]; exact opSplit_e (by rw [len_sp]; decide) (by omega)
  obtain ⟨at_,hat⟩:∃ a:Int,a=n / 8 % (W.length:Int):=⟨_,rfl⟩
  obtain ⟨pl,hpl⟩:∃ a:Int,a=n / 8 % ((x.length:Int) + 1):=⟨_,rfl⟩
  obtain ⟨k,hk⟩:∃ a:Int,a=n % 8:=⟨_,rfl⟩
  have k0:0 ≤ k∧k < 8:=by omega
  have w0:(0:Int) < (W.length:Int):=by omega
  have x0:(0:Int) < (x.length:Int) + 1:=by omega
  have xl:x.length ≤ 100000:=by omega
  have sl:=fun lo hi=>sl_len x lo hi
  have so:=fun lo hi=>slice_ok (x:=x) (lo:=lo) (hi:=hi) hx
  have S0:∀ g:DS→Option Fl,(dSeq (dSet 2 (dOf (dMtS opSplit (dVar 0) (dC (.str " ")))))
    (dSeq (dSet 3 (dBin (opC2 okMod fun i j=>i % j) (dBin (opC2 okDiv fun i j=>i / j) (dVar 1) (dC (.int 8))) (dUn uLen (dVar 2))))
    (dSeq (dSet 4 (dBin (opC2 okMod fun i j=>i % j) (dBin (opC2 okDiv fun i j=>i / j) (dVar 1) (dC (.int 8))) (dBin opAdd (dUn uLen (dVar 0)) (dC (.int 1)))))
    (dSeq (dSet 5 (dBin (opC2 okMod fun i j=>i % j) (dVar 1) (dC (.int 8)))) g)))) [some (Slot.val (D.str x)),some (Slot.val (D.int n)),none,none,none,none,none,none,none]=g [some (Slot.val (D.str x)),some (Slot.val (D.int n)),some (Slot.val (D.lst (W.map D.str))),some (Slot.val (D.int at_)),some (Slot.val (D.int pl)),some (Slot.val (D.int k)),none,none,none]:=fun g=>by
    rw [seq_next (S':=[some (Slot.val (D.str x)),some (Slot.val (D.int n)),some (Slot.val (D.lst (W.map D.str))),none,none,none,none,none,none]) (by simp [os])]
    rw [seq_next (S':=[some (Slot.val (D.str x)),some (Slot.val (D.int n)),some (Slot.val (D.lst (W.map D.str))),some (Slot.val (D.int at_)),none,none,none,none,none]) (by simp [w0,← hat,show 0 < W.length by omega])]
    rw [seq_next (S':=[some (Slot.val (D.str x)),some (Slot.val (D.int n)),some (Slot.val (D.lst (W.map D.str))),some (Slot.val (D.int at_)),some (Slot.val (D.int pl)),none,none,none,none]) (by simp [x0,xl,← hpl])]
    rw [seq_next (S':=[some (Slot.val (D.str x)),some (Slot.val (D.int n)),some (Slot.val (D.lst (W.map D.str))),some (Slot.val (D.int at_)),some (Slot.val (D.int pl)),some (Slot.val (D.int k)),none,none,none]) (by simp [← hk])]
  unfold R.m_l_changed R.g_l_changed
  rw [startN_2]
  have e2:(List.replicate (9 - 2) none:List (Option Slot))=[none,none,none,none,none,none,none]:=rfl
  rw [e2,S0]
  by_cases c0:k=0
  · have h1:=sl none (some pl)
    have h2:=sl (some (pl + 1)) none
    refine ⟨Txt.slice x none (some pl) ++ Txt.slice x (some (pl + 1)) none,?_,strOk_app (so _ _) (so _ _),by rw [Str.length_append]; omega⟩
    have k1:(Txt.slice x none (some pl)).length + (Txt.slice x (some (pl + 1)) none).length ≤ 100000:=by omega
    simp [c0,xl,k1]
  · rw [seq_next (S':=[some (Slot.val (D.str x)),some (Slot.val (D.int n)),some (Slot.val (D.lst (W.map D.str))),some (Slot.val (D.int at_)),some (Slot.val (D.int pl)),some (Slot.val (D.int k)),none,none,none]) (by simp [c0])]
    by_cases c1:k < 3
    · obtain ⟨c,o1,o2,o3⟩:=sign_at (j:=n / 7 % 19) (by omega) (by omega)
      have h1:=sl none (some pl)
      have h2:=sl (some (pl + k - 1)) none
      refine ⟨Txt.slice x none (some pl) ++ c ++ Txt.slice x (some (pl + k - 1)) none,?_,strOk_app (strOk_app (so _ _) o2) (so _ _),by rw [Str.length_append,Str.length_append]; omega⟩
      have k1:(Txt.slice x none (some pl)).length + 1 ≤ 100000:=by omega
      have k2:(Txt.slice x none (some pl)).length + 1 + (Txt.slice x (some (pl + k - 1)) none).length ≤ 100000:=by omega
      simp [c1,xl,o1,o3,k1,k2,Str.length_append]
    · rw [seq_next (S':=[some (Slot.val (D.str x)),some (Slot.val (D.int n)),some (Slot.val (D.lst (W.map D.str))),some (Slot.val (D.int at_)),some (Slot.val (D.int pl)),some (Slot.val (D.int k)),none,none,none]) (by simp [c1])]
      have sll:=fun lo hi=>slice_lst W lo hi
      by_cases c3:k=3
      · have w1:=(ws.cut none (some at_)).app (ws.cut (some (at_ + 1)) none)
        obtain ⟨j1,j2,j3⟩:=w1.join (by omega)
        have a1:=add_lst (a:=cutD W none (some at_)) (b:=cutD W (some (at_ + 1)) none) (by have:=w1.len; rw [List.length_append] at this; omega)
        refine ⟨_,?_,j2,by omega⟩
        rw [dSeq_e,dIf_e]
        simp only [dtB_e,dBin_e,dVar_e,dC_e,mb_ok,toD_ok,List.getElem?_cons_zero,List.getElem?_cons_succ,cEq_int,c3,vr_some,decide_true,if_true,dRet_e,dJoin_e,dSlice_e,dNoPart_e,dPart_e,opAdd_int,sll,a1,j1,liftE_ok]
        rfl
      · rw [seq_next (S':=[some (Slot.val (D.str x)),some (Slot.val (D.int n)),some (Slot.val (D.lst (W.map D.str))),some (Slot.val (D.int at_)),some (Slot.val (D.int pl)),some (Slot.val (D.int k)),none,none,none]) (by simp [c3])]
        by_cases c4:k=4
        · have w1:=(ws.cut none (some at_)).app (ws.cut (some at_) (some (at_ + 1)))
          have w2:=w1.app (ws.cut (some at_) none)
          obtain ⟨j1,j2,j3⟩:=w2.join (by omega)
          have a1:=add_lst (a:=cutD W none (some at_)) (b:=cutD W (some at_) (some (at_ + 1))) (by have:=w1.len; rw [List.length_append] at this; omega)
          have a2:=add_lst (a:=cutD W none (some at_) ++ cutD W (some at_) (some (at_ + 1))) (b:=cutD W (some at_) none) (by have:=w2.len; rw [List.length_append] at this; omega)
          refine ⟨_,?_,j2,by omega⟩
          rw [dSeq_e,dIf_e]
          simp only [dtB_e,dBin_e,dVar_e,dC_e,mb_ok,toD_ok,List.getElem?_cons_zero,List.getElem?_cons_succ,cEq_int,c4,vr_some,decide_true,if_true,dRet_e,dJoin_e,dSlice_e,dNoPart_e,dPart_e,opAdd_int,sll,a1,a2,j1,liftE_ok]
          rfl
        · rw [seq_next (S':=[some (Slot.val (D.str x)),some (Slot.val (D.int n)),some (Slot.val (D.lst (W.map D.str))),some (Slot.val (D.int at_)),some (Slot.val (D.int pl)),some (Slot.val (D.int k)),none,none,none]) (by simp [c4])]
          by_cases c5:k=5
          · have w1:=(ws.cut (some (at_ + 1)) (some (at_ + 2))).app (ws.cut (some at_) (some (at_ + 1)))
            have w2:=(ws.cut none (some at_)).app w1
            have w3:=w2.app (ws.cut (some (at_ + 2)) none)
            obtain ⟨j1,j2,j3⟩:=w3.join (by omega)
            have a1:=add_lst (a:=cutD W (some (at_ + 1)) (some (at_ + 2))) (b:=cutD W (some at_) (some (at_ + 1))) (by have:=w1.len; rw [List.length_append] at this; omega)
            have a2:=add_lst (a:=cutD W none (some at_)) (b:=cutD W (some (at_ + 1)) (some (at_ + 2)) ++ cutD W (some at_) (some (at_ + 1))) (by have:=w2.len; rw [List.length_append] at this; omega)
            have a3:=add_lst (a:=cutD W none (some at_) ++ (cutD W (some (at_ + 1)) (some (at_ + 2)) ++ cutD W (some at_) (some (at_ + 1)))) (b:=cutD W (some (at_ + 2)) none) (by have:=w3.len; rw [List.length_append] at this; omega)
            refine ⟨_,?_,j2,by omega⟩
            rw [dSeq_e,dIf_e]
            simp only [dtB_e,dBin_e,dVar_e,dC_e,mb_ok,toD_ok,List.getElem?_cons_zero,List.getElem?_cons_succ,cEq_int,c5,vr_some,decide_true,if_true,dSeq_e,dSet_e,List.set_cons_zero,List.set_cons_succ,dRet_e,dJoin_e,dSlice_e,dNoPart_e,dPart_e,opAdd_int,sll,a1,a2,a3,j1,liftE_ok]
            rfl
          · rw [seq_next (S':=[some (Slot.val (D.str x)),some (Slot.val (D.int n)),some (Slot.val (D.lst (W.map D.str))),some (Slot.val (D.int at_)),some (Slot.val (D.int pl)),some (Slot.val (D.int k)),none,none,none]) (by simp [c5])]
            obtain ⟨w,o1,o2,o3⟩:=word_at (j:=n / 7 % 12) (by omega) (by omega)
            have os2:opSplit ("+ 0 1 x x1 1x x0 2x2 x9 0x 4 xx" : Str) " " = some (.ok ((Txt.split ("+ 0 1 x x1 1x x0 2x2 x9 0x 4 xx" : Str) " ").map D.str)):=opSplit_e (by rw [len_sp]; decide) (by decide +kernel)
            have w1:=(ws.cut none (some at_)).app (Ws.one o2)
            have w2:=w1.app (ws.cut (some (at_ + 1)) none)
            obtain ⟨j1,j2,j3⟩:=w2.join (by omega)
            have a1:=add_lst (a:=cutD W none (some at_)) (b:=[w]) (by have:=w1.len; rw [List.length_append] at this; omega)
            have a2:=add_lst (a:=cutD W none (some at_) ++ [w]) (b:=cutD W (some (at_ + 1)) none) (by have:=w2.len; rw [List.length_append] at this; omega)
            refine ⟨_,?_,j2,by omega⟩
            rw [seq_next (S':=[some (Slot.val (D.str x)),some (Slot.val (D.int n)),some (Slot.val (D.lst (W.map D.str))),some (Slot.val (D.int at_)),some (Slot.val (D.int pl)),some (Slot.val (D.int k)),none,none,some (Slot.val (D.lst ((Txt.split ("+ 0 1 x x1 1x x0 2x2 x9 0x 4 xx" : Str) " ").map D.str)))]) (by simp only [dSet_e,dOf_e,dMtS_e,dC_e,mb_ok,toD_ok,os2,liftE_ok]; rfl)]
            have a1':opAdd (.lst ((cutD W none (some at_)).map D.str)) (.lst [.str w])=some (.lst ((cutD W none (some at_) ++ [w]).map D.str)):=a1
            have dv:n / 7 % 12=n / 7 % 12:=rfl
            have okd:okDiv n 7=true:=by simp
            have okm:okMod (n / 7) 12=true:=by simp
            simp only [dRet_e,dJoin_e,dBin_e,dVar_e,dC_e,mb_ok,toD_ok,List.getElem?_cons_zero,List.getElem?_cons_succ,dSlice_e,dNoPart_e,dPart_e,opAdd_int,sll,dOf_e,dLst_e,dCons_e,dNil_e,opC2_e,okd,okm,if_true,vr_some,o1,datas_ok,datas_nil,Option.map_some,List.length_cons,List.length_nil,show (0 + 1 ≤ 100000) from by decide,a1',a2,j1,liftE_ok]
            rfl
end PF
set_option Elab.async false
set_option linter.all false
set_option maxRecDepth 100000
set_option maxHeartbeats 4000000
namespace PF
open PySem L2 PA
open PySem.StrLaws
noncomputable def toldD:Option (List Int)→D
  | some m=>tupZ m
  | none=>.non
theorem E_found {q:Nat} (hq:q=2∨q=3∨q=5) {x:Str} (hx:PyData.strOk x=true) (hl:x.length ≤ 20000):R.m_l_found [.str x,.int q]=some (.ok (toldD (told q x))):=by
  have e:=E_read hq hx hl
  unfold R.m_l_found R.g_l_found
  cases z:told q x with
  | none=>
    rw [z] at e
    rw [dSeq_e,try_ex (k:=2) (d:=.non) (by simp [startN,e]) (by rfl)]
    rfl
  | some m=>
    rw [z] at e
    rw [dSeq_e,try_ok (d:=tupZ m) (by simp [startN,e])]
    unfold toldD
    simp [startN,tupZ]
theorem E_due_told {q:Nat} (hq0:0 < q) (hq:q ≤ 5) {x:Str} (hx:PyData.strOk x=true) (hl:x.length ≤ 20000):R.m_l_due [.str x,.int q]=some (.ok (toldD (told q x))):=by
  have ed:=E_due hq0 hq hx hl
  cases z:told q x with
  | some m=>
    obtain ⟨s1,s2,s3⟩:=told_sound z
    obtain ⟨m',d1,d2⟩:=dueL_wr hq0 hq s1 s2
    rw [s3] at d1
    rcases ed with ⟨m2,r,e1,e2,e3⟩ | ⟨e1,e2⟩
    · rw [d1] at e1
      have:=Option.some.inj e1
      subst this
      have hr:=e2.uniq d2
      subst hr
      have hs:isSumD q (tupZ r)=true:=by
        haveI:NeZero q:=⟨by omega⟩
        unfold isSumD
        rw [isLong_Sm s1]
        unfold tupZ
        simp [s2]
      rw [e3,if_pos ⟨hs,s3⟩]
      rfl
    · rw [d1] at e1; cases e1
  | none=>
    rcases ed with ⟨m2,r,e1,e2,e3⟩ | ⟨e1,e2⟩
    · rw [e3]
      by_cases c:isSumD q (tupZ r)=true∧wr r=x
      · exfalso
        obtain ⟨r',er,sr,lr⟩:=isSum_inv c.1
        have er':r=r':=(List.map_inj_right (fun a b h=>D.int.inj h)).mp (D.tup.inj er)
        subst er'
        have:=told_wr hq0 hq sr lr
        rw [c.2,z] at this
        cases this
      · rw [if_neg c]
        rfl
    · exact e2
theorem wr_len {q:Nat} (hq0:0 < q) (hq:q ≤ 5) {l:List Int} (hr:Red q l) (hl:l.length ≤ 10):(wr l).length ≤ 60:=by
  unfold wr
  split
  · decide +kernel
  · have m1:=tms_mem (p:=(q:Int)) (by omega) (by omega) hr hl l.length
    have g2:=sum_len fun t ht=>(m1 t ht).1
    have g3:=tms_len l l.length
    cases z:tms l l.length with
    | nil=>
      show Str.empty.length ≤ 60
      exact Nat.zero_le _
    | cons t ts=>
      rw [z] at g2 g3
      rw [PyProof.Rows.len_join_cons,len_p]
      simp only [List.length_cons] at g2 g3
      omega
noncomputable def tB:Nat→Nat
  | 0=>60
  | k + 1=>4 * (tB k + 2)
theorem tB_le:∀ k,k ≤ 3→tB k ≤ 4900:=by decide
theorem tB_le':∀ k,k ≤ 4→tB k ≤ 20000:=by decide
end PF
namespace K03
open PySem L2 PF PA
theorem tail {q:Nat} (hq:q=2∨q=3∨q=5) {x:Str} (hx:PyData.strOk x=true) (hl:x.length ≤ 20000) (s0 v2 v4 v5:Option Slot) :
    okM (fin ((dSeq (dSet 6 (dCall 2 R.m_l_found (dCons (dVar 3) (dCons (dVar 1) dNil))))
    (dRet (dAndV (dBin cEq (dVar 6) (dCall 2 R.m_l_due (dCons (dVar 3) (dCons (dVar 1) dNil)))) (dOrV (dUn uIsN (dVar 6)) (dCall 2 R.m_l_is_sum (dCons (dVar 6) (dCons (dVar 1) dNil))))))) [s0,some (Slot.val (D.int q)),v2,some (Slot.val (D.str x)),v4,v5,none]))=some (.ok (.bl true)):=by
  have h1:=E_found hq hx hl
  have h2:=E_due_told (q:=q) (by omega) (by omega) hx hl
  rw [seq_next (S':=[s0,some (Slot.val (D.int q)),v2,some (Slot.val (D.str x)),v4,v5,some (Slot.val (toldD (told q x)))]) (by simp [h1])]
  cases z:told q x with
  | none=>
    rw [z] at h2
    have ce:cEq .non .non=some (.bl true):=by simp [cEq,dep,deq]
    simp [h2,toldD,ce]
  | some m=>
    rw [z] at h2
    obtain ⟨s1,s2,s3⟩:=told_sound z
    haveI:NeZero q:=⟨by omega⟩
    have c2:=sumZ s1 s2
    simp only [toldD] at h2 ⊢
    simp [h2,c2]
theorem law_holds:∀ ns:List Int,ns.length ≤ 63→R.m_law_k03 [.scr ns]=some (.ok (.bl true)):=fun ns _=>by
  obtain ⟨p,hp,ep⟩:=size_of ns
  obtain ⟨q,hpq,h2,h5⟩:=clock_nat hp
  have hq:q=2∨q=3∨q=5:=by
    rcases hp with h | h | h <;> omega
  subst hpq
  have e1:R.m_l_mixed [.scr ns,.int 1]=some (.ok (.int (mixedZ ns 1))):=E_mixed ns 1 (by decide) 1 rfl
  have e2:R.m_l_mixed [.scr ns,.int 2]=some (.ok (.int (mixedZ ns 2))):=E_mixed ns 2 (by decide) 2 rfl
  obtain ⟨l,sl,ll,el⟩:=E_sum hp (mixedZ ns 1) 10 (mixed_nn ns 1).1 (by decide) (by decide)
  have ll':l.length ≤ 10:=by have:=Int.emod_lt_of_pos (mixedZ ns 1) (show (0:Int) < 10 + 1 by decide); omega
  have ew:=E_l_written (p:=(q:Int)) (by omega) (by omega) l sl ll'
  obtain ⟨n,hn⟩:∃ n,n=mixedZ ns 2:=⟨_,rfl⟩
  have n0:0 ≤ n:=by rw [hn]; exact (mixed_nn ns 2).1
  rw [← hn] at e2
  unfold R.m_law_k03 R.g_law_k03
  rw [startN_1,seq_next (S':=[some (Slot.val (D.scr ns)),some (Slot.val (D.int q)),none,none,none,none,none]) (by rw [dSet_e,ep (by rfl)]; rfl)]
  rw [seq_next (S':=[some (Slot.val (D.scr ns)),some (Slot.val (D.int q)),some (Slot.val (tupZ l)),none,none,none,none]) (by simp [e1,el])]
  rw [seq_next (S':=[some (Slot.val (D.scr ns)),some (Slot.val (D.int q)),some (Slot.val (tupZ l)),some (Slot.val (D.str (wr l))),none,none,none]) (by simp [ew])]
  rw [seq_next (S':=[some (Slot.val (D.scr ns)),some (Slot.val (D.int q)),some (Slot.val (tupZ l)),some (Slot.val (D.str (wr l))),some (Slot.val (D.int n)),none,none]) (by simp [e2])]
  obtain ⟨c,hc⟩:∃ c:Int,c=n % 3 * (1 + n / 3 % 2):=⟨_,rfl⟩
  have hc2:0 ≤ c∧c ≤ 4:=by
    have a1:n % 3=0∨n % 3=1∨n % 3=2:=by omega
    have a2:n / 3 % 2=0∨n / 3 % 2=1:=by omega
    rw [hc]
    rcases a1 with z | z | z <;> rcases a2 with y | y <;> rw [z,y] <;> decide
  have okm:okMul (n % 3) (1 + n / 3 % 2)=true:=okMul_l (by omega) (by omega)
  obtain ⟨S',eS,y,v5,hS,hy,hyl⟩:=loopD_inv0 (set:=sName 5) (g:=R.b_law_k03_1 R.m_l_mixed R.m_l_sum R.m_l_written R.m_l_changed R.m_l_drawn R.m_l_found R.m_l_due R.m_l_is_sum)
    (fun k S=>∃ (y:Str) (v5:Option Slot),S=[some (Slot.val (D.scr ns)),some (Slot.val (D.int q)),some (Slot.val (tupZ l)),some (Slot.val (D.str y)),some (Slot.val (D.int n)),v5,none]∧PyData.strOk y=true∧y.length ≤ tB k) (l:=rangeD 0 c) (S:=[some (Slot.val (D.scr ns)),some (Slot.val (D.int q)),some (Slot.val (tupZ l)),some (Slot.val (D.str (wr l))),some (Slot.val (D.int n)),none,none])
    ⟨wr l,none,rfl,wr_ok (p:=(q:Int)) (by omega) (by omega) sl.1 ll',wr_len (by omega) h5 sl.1 ll'⟩ (fun k d S hk ⟨y,v5,hS,hy,hyl⟩=>by
      obtain ⟨rfl,hk2⟩:=rangeD_get hk
      subst hS
      have k3:k ≤ 3:=by omega
      have dr:=E_drawn n ((0:Int) + k) (by omega) (by omega)
      obtain ⟨z,z1,z2,z3⟩:=E_changed hy (Nat.le_trans hyl (tB_le k k3)) (drawnZ n ((0:Int) + k)) (drawn_nn _ _).1
      refine ⟨_,[some (Slot.val (D.scr ns)),some (Slot.val (D.int q)),some (Slot.val (tupZ l)),some (Slot.val (D.str z)),some (Slot.val (D.int n)),some (Slot.val (D.int ((0:Int) + k))),none],rfl,?_,z,_,rfl,z2,Nat.le_trans z3 (by show 4 * (y.length + 2) ≤ 4 * (tB k + 2); omega)⟩
      unfold R.b_law_k03_1
      rw [dSet_e,dCall_e]
      simp only [dCons_e,dNil_e,dVar_e,dCall_e,mb_ok,List.getElem?_cons_zero,List.getElem?_cons_succ,List.set_cons_zero,List.set_cons_succ,List.map_cons,List.map_nil,toD_ok,dr,List.length_cons,List.length_nil,if_true,List.any_cons,List.any_nil,isBor_ok,Bool.false_or,Bool.false_eq_true,false_and,if_false,z1,liftE_ok,Nat.reduceAdd])
  rw [rangeD_len,Int.sub_zero] at hyl
  subst hS
  rw [seq_next (S':=[some (Slot.val (D.scr ns)),some (Slot.val (D.int q)),some (Slot.val (tupZ l)),some (Slot.val (D.str y)),some (Slot.val (D.int n)),v5,none]) (by
    simp only [dFor_e,dRange1_e,dCons_e,dNil_e,dBin_e,dVar_e,dC_e,mb_ok,toD_ok,List.getElem?_cons_zero,List.getElem?_cons_succ,opC2_e,opMul_int,opAdd_int,vr_some,show okMod n 3=true from by simp,show okDiv n 3=true from by simp,show okMod (n / 3) 2=true from by simp,okm,if_true,← hc]
    rw [if_pos (by simp [rOk]; omega)]
    exact eS)]
  exact tail hq hy (Nat.le_trans hyl (tB_le' _ (by omega))) _ _ _ _
end K03
set_option Elab.async false
set_option linter.all false
set_option maxRecDepth 100000
set_option maxHeartbeats 4000000
namespace K03
open PySem L2 PF
noncomputable def top (i:Nat):Stmt:=PySem.Challenge.pw_primefold_k03_whole_read.main.body.getD i (.Pass ⟨0,0,0,0⟩)
structure Tx (K:PySem.W.Frag) (mg:Str→Option Value):Prop where
  b_ValueError:mg "ValueError" = none
  b_bool:mg "bool" = none
  b_int:mg "int" = none
  b_isinstance:mg "isinstance" = none
  b_len:mg "len" = none
  b_range:mg "range" = none
  b_reversed:mg "reversed" = none
  b_str:mg "str" = none
  b_tuple:mg "tuple" = none
  g_BETWEEN:∃ t,mg "BETWEEN" = some (.str " + " t)
  g_MOST_NUMBERS:∃ t,mg "MOST_NUMBERS" = some (.int 9 t)
  g_NOUGHT:∃ t,mg "NOUGHT" = some (.str "0" t)
noncomputable abbrev s_written_term:Stmt:=top 9
noncomputable abbrev n_written_term:List Str:=["number", "power", "ahead", "behind"]
noncomputable abbrev p_written_term:List Str:=["number", "power"]
theorem sc_written_term:FnScope n_written_term p_written_term (defScope s_written_term):=⟨rfl,rfl,rfl,by decide +kernel,rfl,by decide +kernel,by decide +kernel⟩
theorem ok_written_term {P:Program} {w:World} {K:PySem.W.Frag} {mg:Str→Option Value} {base:Heap} {f:Addr} {fd:FuncData} {k:Nat} {m:List D→M D} (T:Tx K mg) (F:Fun K "written_term" "written_term" s_written_term f fd)
    (hm:m=fun ds=>okM (fin (R.g_written_term (startN 4 ds)))):FnOk P w K mg base CX0 (k + 1) f fd p_written_term (spM K p_written_term.length m):=
  Fun.d (g:=R.g_written_term) F sc_written_term (fun cdv A outer s H E hr F0 H0=>(dss_cons (ds_if (dt_eq hr.units (de_var 1) de_int) (dss_one (ds_ret (de_str1 rfl T.b_str (de_var 0)))) dss_nil)
    (dss_cons (ds_set 2 sc_written_term.nd (de_ifExp (dt_eq hr.units (de_var 0) de_int) de_str (de_str1 rfl T.b_str (de_var 0))))
    (dss_cons (ds_set 3 sc_written_term.nd (de_ifExp (dt_eq hr.units (de_var 1) de_int) de_str (de_str1 rfl T.b_str (de_var 1))))
    (dss_one (ds_ret (de_add (de_add (de_var 2) de_str) (de_var 3)))))))) (okM_hg hm)
noncomputable abbrev s_known_terms:Stmt:=top 11
noncomputable abbrev n_known_terms:List Str:=["size", "known", "power", "number"]
noncomputable abbrev p_known_terms:List Str:=["size"]
theorem sc_known_terms:FnScope n_known_terms p_known_terms (defScope s_known_terms):=⟨rfl,rfl,rfl,by decide +kernel,rfl,by decide +kernel,by decide +kernel⟩
theorem ok_known_terms {P:Program} {w:World} {K:PySem.W.Frag} {mg:Str→Option Value} {base:Heap} {f:Addr} {fd:FuncData} {k:Nat} {m_written_term:List D→M D} {m:List D→M D} (T:Tx K mg) (F:Fun K "known_terms" "known_terms" s_known_terms f fd) (F_written_term:FnD P w K mg base CX0 k "written_term" 2 m_written_term)
    (hm:m=fun ds=>okM (fin (R.g_known_terms m_written_term (startN 4 ds)))):FnOk P w K mg base CX0 (k + 1) f fd p_known_terms (spM K p_known_terms.length m):=
  Fun.d (g:=R.g_known_terms m_written_term) F sc_known_terms (fun cdv A outer s H E hr F0 H0=>(dss_cons (ds_owd 1 sc_known_terms.nd)
    (dss_cons (ds_for PassesOwn.never rfl (di_range1 rfl T.b_range (da_cons (de_globI rfl T.g_MOST_NUMBERS) da_nil)) (fun _=>(dg_name 2 sc_known_terms.nd)) (fun _=>(dss_one (ds_for PassesOwn.never rfl (di_range2 rfl T.b_range (da_cons de_int (da_cons (de_var 0) da_nil))) (fun _=>(dg_name 3 sc_known_terms.nd)) (fun _=>(dss_one (ds_dput 1 hr.units (de_call F_written_term hr rfl pass0' (da_cons (de_var 3) (da_cons (de_var 2) da_nil))) (de_tup (da_cons (de_var 3) (da_cons (de_var 2) da_nil))))))))))
    (dss_one (ds_ret (de_var 1)))))) (okM_hg hm)
noncomputable abbrev s_with_term_x:Stmt:=top 12
noncomputable abbrev n_with_term_x:List Str:=["numbers", "number", "power"]
noncomputable abbrev p_with_term_x:List Str:=["numbers", "number", "power"]
theorem sc_with_term_x:FnScope n_with_term_x p_with_term_x (defScope s_with_term_x):=⟨rfl,rfl,rfl,by decide +kernel,rfl,by decide +kernel,by decide +kernel⟩
theorem ok_with_term_x {P:Program} {w:World} {K:PySem.W.Frag} {mg:Str→Option Value} {base:Heap} {f:Addr} {fd:FuncData} {k:Nat} {m:List D→M D} (T:Tx K mg) {C0 C1 C2 C3:Addr} (T4:Four K mg C0 C1 C2 C3) (k2:ExK K C2) (KI:Kin2 K C0 C1 C2 C3) (F:Fun K "with_term" "with_term" s_with_term_x f fd)
    (hm:m=fun ds=>(fin (R.g_with_term_x (startN 3 ds)))):FnOk P w K mg base (CXE K P w) (k + 1) f fd p_with_term_x (spM K p_with_term_x.length m):=
  Fun.dx (g:=R.g_with_term_x) F sc_with_term_x (fun cdv A outer s H E hr F0 H0=>(dss_cons (ds_if (dt_lt (de_var 2) (de_len rfl T.b_len (de_var 0))) (dss_one (ds_raise 2 hr.hd T4.n2 k2.exc T4.g2 rfl de_str (fun _=>rfl))) dss_nil)
    (dss_nox (dss_one (ds_ret (de_add (de_add (de_var 0) (de_mul (de_tup (da_cons de_int da_nil)) (de_sub (de_var 2) (de_len rfl T.b_len (de_var 0))))) (de_tup (da_cons (de_var 1) da_nil)))))))) (fun ds r _ e=>by rw [hm] at e; exact e)
noncomputable abbrev s_read_x:Stmt:=top 13
noncomputable abbrev n_read_x:List Str:=["text", "size", "known", "numbers", "term", "found"]
noncomputable abbrev p_read_x:List Str:=["text", "size"]
theorem sc_read_x:FnScope n_read_x p_read_x (defScope s_read_x):=⟨rfl,rfl,rfl,by decide +kernel,rfl,by decide +kernel,by decide +kernel⟩
theorem ok_read_x {P:Program} {w:World} {K:PySem.W.Frag} {mg:Str→Option Value} {base:Heap} {f:Addr} {fd:FuncData} {k:Nat} {m_known_terms:List D→M D} {m_with_term_x:List D→M D} {m:List D→M D} (T:Tx K mg) {C0 C1 C2 C3:Addr} (T4:Four K mg C0 C1 C2 C3) (k2:ExK K C2) (KI:Kin2 K C0 C1 C2 C3) (F:Fun K "read" "read" s_read_x f fd) (F_known_terms:FnD P w K mg base CX0 k "known_terms" 1 m_known_terms) (F_with_term_x:FnD P w K mg base (CXE K P w) k "with_term" 3 m_with_term_x)
    (hm:m=fun ds=>(fin (R.g_read_x m_known_terms m_with_term_x (startN 6 ds)))):FnOk P w K mg base (CXE K P w) (k + 1) f fd p_read_x (spM K p_read_x.length m):=
  Fun.dx (g:=R.g_read_x m_known_terms m_with_term_x) F sc_read_x (fun cdv A outer s H E hr F0 H0=>(dss_wish (dss_cons (ds_if (dt_eq hr.units (de_var 0) (de_globS rfl T.g_NOUGHT)) (dss_one (ds_ret (de_tup da_nil))) dss_nil)
    (dss_cons (ds_set 2 sc_read_x.nd (de_call F_known_terms hr rfl pass0' (da_cons (de_var 1) da_nil)))
    (dss_cons (ds_set 3 sc_read_x.nd (de_tup da_nil))
    (dss_cons (ds_for (xs_passes rfl rfl) rfl (di_revl rfl T.b_reversed (de_of (df_split (de_var 0) (de_globS rfl T.g_BETWEEN)))) (fun _=>(dg_name 4 sc_read_x.nd)) (fun _=>(dss_cons (ds_if (dt_dnotin hr.units (de_var 4) (de_var 2)) (dss_one (ds_raisel 2 hr.hd T4.n2 k2.exc T4.g2 rfl de_str (fun _=>rfl))) dss_nil)
    (dss_cons (ds_set 5 sc_read_x.nd (de_dget hr.units (de_var 2) (de_var 4)))
    (dss_one (ds_set 3 sc_read_x.nd (de_call F_with_term_x hr rfl xs_call (da_cons (de_var 3) (da_cons (de_ix (de_var 5) de_int (fun _ _=>rfl)) (da_cons (de_ix (de_var 5) de_int (fun _ _=>rfl)) da_nil))))))))))
    (dss_one (ds_ret (de_var 3))))))) (fun _ _ z=>xs_leave z))) (fun ds r _ e=>by rw [hm] at e; exact e)
noncomputable abbrev s_l_cell_at:Stmt:=top 15
noncomputable abbrev n_l_cell_at:List Str:=["_law_script", "_law_k"]
noncomputable abbrev p_l_cell_at:List Str:=["_law_script", "_law_k"]
theorem sc_l_cell_at:FnScope n_l_cell_at p_l_cell_at (defScope s_l_cell_at):=⟨rfl,rfl,rfl,by decide +kernel,rfl,by decide +kernel,by decide +kernel⟩
theorem ok_l_cell_at {P:Program} {w:World} {K:PySem.W.Frag} {mg:Str→Option Value} {base:Heap} {f:Addr} {fd:FuncData} {k:Nat} {m:List D→M D} (T:Tx K mg) (F:Fun K "_law_cell_at" "_law_cell_at" s_l_cell_at f fd)
    (hm:m=fun ds=>okM (fin (R.g_l_cell_at (startN 2 ds)))):FnOk P w K mg base CX0 (k + 1) f fd p_l_cell_at (spM K p_l_cell_at.length m):=
  Fun.d (g:=R.g_l_cell_at) F sc_l_cell_at (fun cdv A outer s H E hr F0 H0=>(dss_cons (ds_if (dt_lt (de_var 1) (de_len rfl T.b_len (de_var 0))) (dss_one (ds_ret (de_ix (de_var 0) (de_var 1) (fun _ _=>rfl)))) dss_nil)
    (dss_one (ds_ret de_int)))) (okM_hg hm)
noncomputable abbrev s_l_mixed:Stmt:=top 16
noncomputable abbrev n_l_mixed:List Str:=["_law_script", "_law_k", "_law_drawn_here"]
noncomputable abbrev p_l_mixed:List Str:=["_law_script", "_law_k"]
theorem sc_l_mixed:FnScope n_l_mixed p_l_mixed (defScope s_l_mixed):=⟨rfl,rfl,rfl,by decide +kernel,rfl,by decide +kernel,by decide +kernel⟩
theorem ok_l_mixed {P:Program} {w:World} {K:PySem.W.Frag} {mg:Str→Option Value} {base:Heap} {f:Addr} {fd:FuncData} {k:Nat} {m_l_cell_at:List D→M D} {m:List D→M D} (T:Tx K mg) (F:Fun K "_law_mixed" "_law_mixed" s_l_mixed f fd) (F_l_cell_at:FnD P w K mg base CX0 k "_law_cell_at" 2 m_l_cell_at)
    (hm:m=fun ds=>okM (fin (R.g_l_mixed m_l_cell_at (startN 3 ds)))):FnOk P w K mg base CX0 (k + 1) f fd p_l_mixed (spM K p_l_mixed.length m):=
  Fun.d (g:=R.g_l_mixed m_l_cell_at) F sc_l_mixed (fun cdv A outer s H E hr F0 H0=>(dss_cons (ds_set 2 sc_l_mixed.nd (de_mod (de_mul (de_add (de_add (de_call F_l_cell_at hr rfl pass0' (da_cons (de_var 0) (da_cons (de_var 1) da_nil))) (de_mul de_int (de_var 1))) de_int) de_int) de_int))
    (dss_one (ds_ret (de_mod (de_add (de_add (de_mul (de_var 2) (de_var 2)) (de_mul de_int (de_var 2))) (de_var 1)) de_int))))) (okM_hg hm)
noncomputable abbrev s_l_drawn:Stmt:=top 17
noncomputable abbrev n_l_drawn:List Str:=["_law_number_here", "_law_k", "_law_drawn_here"]
noncomputable abbrev p_l_drawn:List Str:=["_law_number_here", "_law_k"]
theorem sc_l_drawn:FnScope n_l_drawn p_l_drawn (defScope s_l_drawn):=⟨rfl,rfl,rfl,by decide +kernel,rfl,by decide +kernel,by decide +kernel⟩
theorem ok_l_drawn {P:Program} {w:World} {K:PySem.W.Frag} {mg:Str→Option Value} {base:Heap} {f:Addr} {fd:FuncData} {k:Nat} {m:List D→M D} (T:Tx K mg) (F:Fun K "_law_drawn" "_law_drawn" s_l_drawn f fd)
    (hm:m=fun ds=>okM (fin (R.g_l_drawn (startN 3 ds)))):FnOk P w K mg base CX0 (k + 1) f fd p_l_drawn (spM K p_l_drawn.length m):=
  Fun.d (g:=R.g_l_drawn) F sc_l_drawn (fun cdv A outer s H E hr F0 H0=>(dss_cons (ds_set 2 sc_l_drawn.nd (de_mod (de_mul (de_add (de_add (de_var 0) (de_mul de_int (de_var 1))) de_int) de_int) de_int))
    (dss_one (ds_ret (de_mod (de_add (de_add (de_mul (de_var 2) (de_var 2)) (de_mul de_int (de_var 2))) (de_var 1)) de_int))))) (okM_hg hm)
noncomputable abbrev s_l_number:Stmt:=top 18
noncomputable abbrev n_l_number:List Str:=["_law_thing", "_law_low", "_law_high"]
noncomputable abbrev p_l_number:List Str:=["_law_thing", "_law_low", "_law_high"]
theorem sc_l_number:FnScope n_l_number p_l_number (defScope s_l_number):=⟨rfl,rfl,rfl,by decide +kernel,rfl,by decide +kernel,by decide +kernel⟩
theorem ok_l_number {P:Program} {w:World} {K:PySem.W.Frag} {mg:Str→Option Value} {base:Heap} {f:Addr} {fd:FuncData} {k:Nat} {m:List D→M D} (T:Tx K mg) (F:Fun K "_law_number" "_law_number" s_l_number f fd)
    (hm:m=fun ds=>okM (fin (R.g_l_number (startN 3 ds)))):FnOk P w K mg base CX0 (k + 1) f fd p_l_number (spM K p_l_number.length m):=
  Fun.d (g:=R.g_l_number) F sc_l_number (fun cdv A outer s H E hr F0 H0=>(dss_one (ds_ret (de_and (de_isi_int rfl T.b_isinstance rfl T.b_int (de_var 0)) (de_and (de_not (de_isi_bool rfl T.b_isinstance rfl T.b_bool (de_var 0))) (de_one (de_lele (de_var 1) (de_var 0) (de_var 2)))))))) (okM_hg hm)
noncomputable abbrev s_l_sum:Stmt:=top 19
noncomputable abbrev n_l_sum:List Str:=["_law_number_here", "_law_size", "_law_most", "_law_many", "_law_found_here", "_law_k", "_law_drawn_here"]
noncomputable abbrev p_l_sum:List Str:=["_law_number_here", "_law_size", "_law_most"]
theorem sc_l_sum:FnScope n_l_sum p_l_sum (defScope s_l_sum):=⟨rfl,rfl,rfl,by decide +kernel,rfl,by decide +kernel,by decide +kernel⟩
theorem ok_l_sum {P:Program} {w:World} {K:PySem.W.Frag} {mg:Str→Option Value} {base:Heap} {f:Addr} {fd:FuncData} {k:Nat} {m_l_drawn:List D→M D} {m:List D→M D} (T:Tx K mg) (F:Fun K "_law_sum" "_law_sum" s_l_sum f fd) (F_l_drawn:FnD P w K mg base CX0 k "_law_drawn" 2 m_l_drawn)
    (hm:m=fun ds=>okM (fin (R.g_l_sum m_l_drawn (startN 7 ds)))):FnOk P w K mg base CX0 (k + 1) f fd p_l_sum (spM K p_l_sum.length m):=
  Fun.d (g:=R.g_l_sum m_l_drawn) F sc_l_sum (fun cdv A outer s H E hr F0 H0=>(dss_cons (ds_set 3 sc_l_sum.nd (de_mod (de_var 0) (de_add (de_var 2) de_int)))
    (dss_cons (ds_own 4 sc_l_sum.nd (df_lst da_nil))
    (dss_cons (ds_for PassesOwn.never rfl (di_range1 rfl T.b_range (da_cons (de_var 3) da_nil)) (fun _=>(dg_name 5 sc_l_sum.nd)) (fun _=>(dss_cons (ds_set 6 sc_l_sum.nd (de_call F_l_drawn hr rfl pass0' (da_cons (de_var 0) (da_cons (de_var 5) da_nil))))
    (dss_one (ds_append 4 (de_mul (de_mod (de_div (de_var 6) de_int) (de_var 1)) (de_int1 rfl T.b_int (de_or (de_gt (de_mod (de_div (de_var 0) de_int) de_int) de_int) (de_one (de_eq hr.units (de_mod (de_var 6) de_int) de_int))))))))))
    (dss_cons (ds_if (dt_gt (de_var 3) de_int) (dss_one (ds_store 4 (de_neg de_int) (de_add de_int (de_mod (de_call F_l_drawn hr rfl pass0' (da_cons (de_var 0) (da_cons de_int da_nil))) (de_sub (de_var 1) de_int))))) dss_nil)
    (dss_one (ds_ret (de_tuple1 rfl T.b_tuple (de_var 4))))))))) (okM_hg hm)
noncomputable abbrev s_l_is_long_sum:Stmt:=top 20
noncomputable abbrev n_l_is_long_sum:List Str:=["_law_thing", "_law_size"]
noncomputable abbrev p_l_is_long_sum:List Str:=["_law_thing", "_law_size"]
theorem sc_l_is_long_sum:FnScope n_l_is_long_sum p_l_is_long_sum (defScope s_l_is_long_sum):=⟨rfl,rfl,rfl,by decide +kernel,rfl,by decide +kernel,by decide +kernel⟩
theorem ok_l_is_long_sum {P:Program} {w:World} {K:PySem.W.Frag} {mg:Str→Option Value} {base:Heap} {f:Addr} {fd:FuncData} {k:Nat} {m_l_number:List D→M D} {m:List D→M D} (T:Tx K mg) (F:Fun K "_law_is_long_sum" "_law_is_long_sum" s_l_is_long_sum f fd) (F_l_number:FnD P w K mg base CX0 k "_law_number" 3 m_l_number)
    (hm:m=fun ds=>okM (fin (R.g_l_is_long_sum m_l_number (startN 2 ds)))):FnOk P w K mg base CX0 (k + 1) f fd p_l_is_long_sum (spM K p_l_is_long_sum.length m):=
  Fun.d (g:=R.g_l_is_long_sum m_l_number) F sc_l_is_long_sum (fun cdv A outer s H E hr F0 H0=>(dss_cons (ds_if (dt_w (dw_or (dt_not (dt_val (de_isi_tuple rfl T.b_isinstance rfl T.b_tuple (de_var 0)))) (dw_or1 (dt_ne hr.units (de_of (df_comp 1 [1] ["_law_part"] ["_law_size"] rfl rfl (by decide) (by decide) (free_by (by rfl)) rfl ⟨rfl,.inl rfl,by decide,.inl rfl,trivial⟩ (by decide) (di_seq (de_var 0)) (fun _ _ _ _ _ _=>(dg_name 0 (show (["_law_part", "_law_size"]:List Str).Nodup by decide +kernel))) (fun _ _ _ _ _ _=>(difs_one (dt_not (dt_val (de_call F_l_number hr rfl pass0' (da_cons (de_var 0) (da_cons de_int (da_cons (de_sub (de_var 1) de_int) da_nil)))))))) (fun _ _ _ _ _ _=>(de_var 0)))) (de_of (df_lst da_nil)))))) (dss_one (ds_ret de_bl)) dss_nil)
    (dss_one (ds_ret (de_or (de_eq hr.units (de_var 0) (de_tup da_nil)) (de_one (de_ne hr.units (de_ix (de_var 0) (de_neg de_int) (fun _ _=>rfl)) de_int))))))) (okM_hg hm)
noncomputable abbrev s_l_is_sum:Stmt:=top 21
noncomputable abbrev n_l_is_sum:List Str:=["_law_thing", "_law_size"]
noncomputable abbrev p_l_is_sum:List Str:=["_law_thing", "_law_size"]
theorem sc_l_is_sum:FnScope n_l_is_sum p_l_is_sum (defScope s_l_is_sum):=⟨rfl,rfl,rfl,by decide +kernel,rfl,by decide +kernel,by decide +kernel⟩
theorem ok_l_is_sum {P:Program} {w:World} {K:PySem.W.Frag} {mg:Str→Option Value} {base:Heap} {f:Addr} {fd:FuncData} {k:Nat} {m_l_is_long_sum:List D→M D} {m:List D→M D} (T:Tx K mg) (F:Fun K "_law_is_sum" "_law_is_sum" s_l_is_sum f fd) (F_l_is_long_sum:FnD P w K mg base CX0 k "_law_is_long_sum" 2 m_l_is_long_sum)
    (hm:m=fun ds=>okM (fin (R.g_l_is_sum m_l_is_long_sum (startN 2 ds)))):FnOk P w K mg base CX0 (k + 1) f fd p_l_is_sum (spM K p_l_is_sum.length m):=
  Fun.d (g:=R.g_l_is_sum m_l_is_long_sum) F sc_l_is_sum (fun cdv A outer s H E hr F0 H0=>(dss_one (ds_ret (de_and (de_call F_l_is_long_sum hr rfl pass0' (da_cons (de_var 0) (da_cons (de_var 1) da_nil))) (de_one (de_le (de_len rfl T.b_len (de_var 0)) de_int)))))) (okM_hg hm)
noncomputable abbrev s_l_written:Stmt:=top 22
noncomputable abbrev n_l_written:List Str:=["_law_thing", "_law_found_here", "_law_place", "_law_number_here"]
noncomputable abbrev p_l_written:List Str:=["_law_thing"]
theorem sc_l_written:FnScope n_l_written p_l_written (defScope s_l_written):=⟨rfl,rfl,rfl,by decide +kernel,rfl,by decide +kernel,by decide +kernel⟩
theorem ok_l_written {P:Program} {w:World} {K:PySem.W.Frag} {mg:Str→Option Value} {base:Heap} {f:Addr} {fd:FuncData} {k:Nat} {m:List D→M D} (T:Tx K mg) (F:Fun K "_law_written" "_law_written" s_l_written f fd)
    (hm:m=fun ds=>okM (fin (R.g_l_written (startN 4 ds)))):FnOk P w K mg base CX0 (k + 1) f fd p_l_written (spM K p_l_written.length m):=
  Fun.d (g:=R.g_l_written) F sc_l_written (fun cdv A outer s H E hr F0 H0=>(dss_cons (ds_set 1 sc_l_written.nd de_str)
    (dss_cons (ds_for PassesOwn.never rfl (di_range3 rfl T.b_range (da_cons (de_sub (de_len rfl T.b_len (de_var 0)) de_int) (da_cons (de_neg de_int) (da_cons (de_neg de_int) da_nil)))) (fun _=>(dg_name 2 sc_l_written.nd)) (fun _=>(dss_cons (ds_set 3 sc_l_written.nd (de_ix (de_var 0) (de_var 2) (fun _ _=>rfl)))
    (dss_one (ds_if (dt_w (dw_and (dt_ne hr.units (de_var 3) de_int) (dw_and1 (dt_eq hr.units (de_var 2) de_int)))) (dss_one (ds_set 1 sc_l_written.nd (de_add (de_add (de_var 1) de_str) (de_str1 rfl T.b_str (de_var 3))))) (dss_one (ds_if (dt_ne hr.units (de_var 3) de_int) (dss_one (ds_set 1 sc_l_written.nd (de_add (de_add (de_add (de_add (de_var 1) de_str) (de_ix (de_of (df_lst (da_cons (de_str1 rfl T.b_str (de_var 3)) (da_cons de_str da_nil)))) (de_int1 rfl T.b_int (de_eq hr.units (de_var 3) de_int)) (fun _ _=>rfl))) de_str) (de_ix (de_of (df_lst (da_cons (de_str1 rfl T.b_str (de_var 2)) (da_cons de_str da_nil)))) (de_int1 rfl T.b_int (de_eq hr.units (de_var 2) de_int)) (fun _ _=>rfl))))) dss_nil)))))))
    (dss_cons (ds_if (dt_eq hr.units (de_var 1) de_str) (dss_one (ds_ret de_str)) dss_nil)
    (dss_one (ds_ret (de_sliceS (de_var 1) (do_some de_int) do_none))))))) (okM_hg hm)
noncomputable abbrev s_l_changed:Stmt:=top 23
noncomputable abbrev n_l_changed:List Str:=["_law_text", "_law_number_here", "_law_words", "_law_at", "_law_place", "_law_kind", "_law_sign", "_law_moved", "_law_some"]
noncomputable abbrev p_l_changed:List Str:=["_law_text", "_law_number_here"]
theorem sc_l_changed:FnScope n_l_changed p_l_changed (defScope s_l_changed):=⟨rfl,rfl,rfl,by decide +kernel,rfl,by decide +kernel,by decide +kernel⟩
theorem ok_l_changed {P:Program} {w:World} {K:PySem.W.Frag} {mg:Str→Option Value} {base:Heap} {f:Addr} {fd:FuncData} {k:Nat} {m:List D→M D} (T:Tx K mg) (F:Fun K "_law_changed" "_law_changed" s_l_changed f fd)
    (hm:m=fun ds=>okM (fin (R.g_l_changed (startN 9 ds)))):FnOk P w K mg base CX0 (k + 1) f fd p_l_changed (spM K p_l_changed.length m):=
  Fun.d (g:=R.g_l_changed) F sc_l_changed (fun cdv A outer s H E hr F0 H0=>(dss_cons (ds_set 2 sc_l_changed.nd (de_of (df_split (de_var 0) de_str)))
    (dss_cons (ds_set 3 sc_l_changed.nd (de_mod (de_div (de_var 1) de_int) (de_len rfl T.b_len (de_var 2))))
    (dss_cons (ds_set 4 sc_l_changed.nd (de_mod (de_div (de_var 1) de_int) (de_add (de_len rfl T.b_len (de_var 0)) de_int)))
    (dss_cons (ds_set 5 sc_l_changed.nd (de_mod (de_var 1) de_int))
    (dss_cons (ds_if (dt_eq hr.units (de_var 5) de_int) (dss_one (ds_ret (de_add (de_sliceS (de_var 0) do_none (do_some (de_var 4))) (de_sliceS (de_var 0) (do_some (de_add (de_var 4) de_int)) do_none)))) dss_nil)
    (dss_cons (ds_if (dt_lt (de_var 5) de_int) (dss_cons (ds_set 6 sc_l_changed.nd (de_ix de_str (de_mod (de_div (de_var 1) de_int) de_int) (fun _ _=>rfl)))
    (dss_one (ds_ret (de_add (de_add (de_sliceS (de_var 0) do_none (do_some (de_var 4))) (de_var 6)) (de_sliceS (de_var 0) (do_some (de_sub (de_add (de_var 4) (de_var 5)) de_int)) do_none))))) dss_nil)
    (dss_cons (ds_if (dt_eq hr.units (de_var 5) de_int) (dss_one (ds_ret (de_join de_str (de_add (de_slice (de_var 2) do_none (do_some (de_var 3))) (de_slice (de_var 2) (do_some (de_add (de_var 3) de_int)) do_none))))) dss_nil)
    (dss_cons (ds_if (dt_eq hr.units (de_var 5) de_int) (dss_one (ds_ret (de_join de_str (de_add (de_add (de_slice (de_var 2) do_none (do_some (de_var 3))) (de_slice (de_var 2) (do_some (de_var 3)) (do_some (de_add (de_var 3) de_int)))) (de_slice (de_var 2) (do_some (de_var 3)) do_none))))) dss_nil)
    (dss_cons (ds_if (dt_eq hr.units (de_var 5) de_int) (dss_cons (ds_set 7 sc_l_changed.nd (de_add (de_slice (de_var 2) (do_some (de_add (de_var 3) de_int)) (do_some (de_add (de_var 3) de_int))) (de_slice (de_var 2) (do_some (de_var 3)) (do_some (de_add (de_var 3) de_int)))))
    (dss_one (ds_ret (de_join de_str (de_add (de_add (de_slice (de_var 2) do_none (do_some (de_var 3))) (de_var 7)) (de_slice (de_var 2) (do_some (de_add (de_var 3) de_int)) do_none)))))) dss_nil)
    (dss_cons (ds_set 8 sc_l_changed.nd (de_of (df_split de_str de_str)))
    (dss_one (ds_ret (de_join de_str (de_add (de_add (de_slice (de_var 2) do_none (do_some (de_var 3))) (de_of (df_lst (da_cons (de_ix (de_var 8) (de_mod (de_div (de_var 1) de_int) de_int) (fun _ _=>rfl)) da_nil)))) (de_slice (de_var 2) (do_some (de_add (de_var 3) de_int)) do_none)))))))))))))))) (okM_hg hm)
noncomputable abbrev s_l_figure:Stmt:=top 24
noncomputable abbrev n_l_figure:List Str:=["_law_word", "_law_empty"]
noncomputable abbrev p_l_figure:List Str:=["_law_word", "_law_empty"]
theorem sc_l_figure:FnScope n_l_figure p_l_figure (defScope s_l_figure):=⟨rfl,rfl,rfl,by decide +kernel,rfl,by decide +kernel,by decide +kernel⟩
theorem ok_l_figure {P:Program} {w:World} {K:PySem.W.Frag} {mg:Str→Option Value} {base:Heap} {f:Addr} {fd:FuncData} {k:Nat} {m:List D→M D} (T:Tx K mg) (F:Fun K "_law_figure" "_law_figure" s_l_figure f fd)
    (hm:m=fun ds=>okM (fin (R.g_l_figure (startN 2 ds)))):FnOk P w K mg base CX0 (k + 1) f fd p_l_figure (spM K p_l_figure.length m):=
  Fun.d (g:=R.g_l_figure) F sc_l_figure (fun cdv A outer s H E hr F0 H0=>(dss_cons (ds_if (dt_eq hr.units (de_var 0) de_str) (dss_one (ds_ret (de_var 1))) dss_nil)
    (dss_cons (ds_if (dt_w (dw_or (dt_gt (de_len rfl T.b_len (de_var 0)) de_int) (dw_or1 (dt_lt (de_find de_str (de_var 0)) de_int)))) (dss_one (ds_ret de_non)) dss_nil)
    (dss_one (ds_ret (de_intS rfl T.b_int (de_var 0))))))) (okM_hg hm)
noncomputable abbrev s_l_due:Stmt:=top 25
noncomputable abbrev n_l_due:List Str:=["_law_text", "_law_size", "_law_numbers", "_law_part", "_law_ahead", "_law_sign", "_law_behind", "_law_place", "_law_number_here", "_law_found_here"]
noncomputable abbrev p_l_due:List Str:=["_law_text", "_law_size"]
theorem sc_l_due:FnScope n_l_due p_l_due (defScope s_l_due):=⟨rfl,rfl,rfl,by decide +kernel,rfl,by decide +kernel,by decide +kernel⟩
theorem ok_l_due {P:Program} {w:World} {K:PySem.W.Frag} {mg:Str→Option Value} {base:Heap} {f:Addr} {fd:FuncData} {k:Nat} {m_l_figure:List D→M D} {m_l_is_sum:List D→M D} {m_l_written:List D→M D} {m:List D→M D} (T:Tx K mg) (F:Fun K "_law_due" "_law_due" s_l_due f fd) (F_l_figure:FnD P w K mg base CX0 k "_law_figure" 2 m_l_figure) (F_l_is_sum:FnD P w K mg base CX0 k "_law_is_sum" 2 m_l_is_sum) (F_l_written:FnD P w K mg base CX0 k "_law_written" 1 m_l_written)
    (hm:m=fun ds=>okM (fin (R.g_l_due m_l_figure m_l_is_sum m_l_written (startN 10 ds)))):FnOk P w K mg base CX0 (k + 1) f fd p_l_due (spM K p_l_due.length m):=
  Fun.d (g:=R.g_l_due m_l_figure m_l_is_sum m_l_written) F sc_l_due (fun cdv A outer s H E hr F0 H0=>(dss_cons (ds_own 2 sc_l_due.nd (df_mul (de_of (df_lst (da_cons de_int da_nil))) de_int))
    (dss_cons (ds_for PassesOwn.never rfl (di_seq (de_of (df_split (de_var 0) de_str))) (fun _=>(dg_name 3 sc_l_due.nd)) (fun _=>(dss_cons (ds_unp (de_part (de_var 3) de_str) (dg_tup rfl (dgs_cons 4 sc_l_due.nd (dgs_cons 5 sc_l_due.nd (dgs_cons 6 sc_l_due.nd dgs_nil)))))
    (dss_cons (ds_set 7 sc_l_due.nd (de_ifExp (dt_eq hr.units (de_var 5) de_str) (de_call F_l_figure hr rfl pass0' (da_cons (de_var 6) (da_cons de_int da_nil))) de_int))
    (dss_cons (ds_set 8 sc_l_due.nd (de_call F_l_figure hr rfl pass0' (da_cons (de_var 4) (da_cons de_int da_nil))))
    (dss_cons (ds_if (dt_w (dw_or (dt_isN (de_var 7)) (dw_or1 (dt_isN (de_var 8))))) (dss_one (ds_ret de_non)) dss_nil)
    (dss_one (ds_store 2 (de_var 7) (de_var 8)))))))))
    (dss_cons (ds_while 200 PassesOwn.never (dt_w (dw_and (dt_ne hr.units (de_var 2) (de_of (df_lst da_nil))) (dw_and1 (dt_eq hr.units (de_ix (de_var 2) (de_neg de_int) (fun _ _=>rfl)) de_int)))) (dss_one (ds_pop 2)))
    (dss_cons (ds_set 9 sc_l_due.nd (de_tuple1 rfl T.b_tuple (de_var 2)))
    (dss_cons (ds_if (dt_w (dw_or (dt_not (dt_val (de_call F_l_is_sum hr rfl pass0' (da_cons (de_var 9) (da_cons (de_var 1) da_nil))))) (dw_or1 (dt_ne hr.units (de_call F_l_written hr rfl pass0' (da_cons (de_var 9) da_nil)) (de_var 0))))) (dss_one (ds_ret de_non)) dss_nil)
    (dss_one (ds_ret (de_var 9))))))))) (okM_hg hm)
noncomputable abbrev s_l_found:Stmt:=top 26
noncomputable abbrev n_l_found:List Str:=["_law_text", "_law_size", "_law_found_here", "e", "_law_good"]
noncomputable abbrev p_l_found:List Str:=["_law_text", "_law_size"]
theorem sc_l_found:FnScope n_l_found p_l_found (defScope s_l_found):=⟨rfl,rfl,rfl,by decide +kernel,rfl,by decide +kernel,by decide +kernel⟩
theorem ok_l_found {P:Program} {w:World} {K:PySem.W.Frag} {mg:Str→Option Value} {base:Heap} {f:Addr} {fd:FuncData} {k:Nat} {m_read_x:List D→M D} {m:List D→M D} (T:Tx K mg) {C0 C1 C2 C3:Addr} (T4:Four K mg C0 C1 C2 C3) (k2:ExK K C2) (KI:Kin2 K C0 C1 C2 C3) (F:Fun K "_law_found" "_law_found" s_l_found f fd) (F_read_x:FnD P w K mg base (CXE K P w) k "read" 2 m_read_x)
    (hm:m=fun ds=>okM (fin (R.g_l_found m_read_x (startN 5 ds)))):FnOk P w K mg base CX0 (k + 1) f fd p_l_found (spM K p_l_found.length m):=
  Fun.dh (g:=R.g_l_found m_read_x) F sc_l_found (fun cdv A outer s H E hr F0 H0 f0=>(dss_cons (ds_try 3 f0 rfl rfl (fun _=>rfl) (fun pn E1 xq1 hp=>(dss_one (ds_set 2 sc_l_found.nd (de_call F_read_x hr rfl hp (da_cons (de_var 0) (da_cons (de_var 1) da_nil)))))) rfl T4.g2 k2 (gsel 2 .non (suite_good2 3 4 T4 k2 KI sc_l_found.nd rfl rfl (by decide) rfl rfl (by decide) (by decide) (by decide) (by decide) rfl rfl rfl rfl rfl rfl) T4.n2 KI.self) sc_l_found.nd rfl)
    (dss_one (ds_ret (de_ix (de_of (df_lst (da_cons (de_var 2) (da_cons (de_tup (da_cons de_int da_nil)) da_nil)))) (de_int1 rfl T.b_int (de_isN (de_var 2))) (fun _ _=>rfl)))))) (okM_hg hm)
noncomputable abbrev s_law:Stmt:=top 27
noncomputable abbrev n_law:List Str:=["_law_script", "_law_size", "_law_thing", "_law_text", "_law_number_here", "_law_k", "_law_found_here"]
noncomputable abbrev p_law:List Str:=["_law_script"]
theorem sc_law:FnScope n_law p_law (defScope s_law):=⟨rfl,rfl,rfl,by decide +kernel,rfl,by decide +kernel,by decide +kernel⟩
theorem ok_law {P:Program} {w:World} {K:PySem.W.Frag} {mg:Str→Option Value} {base:Heap} {f:Addr} {fd:FuncData} {k:Nat} {m_l_mixed:List D→M D} {m_l_sum:List D→M D} {m_l_written:List D→M D} {m_l_changed:List D→M D} {m_l_drawn:List D→M D} {m_l_found:List D→M D} {m_l_due:List D→M D} {m_l_is_sum:List D→M D} {m:List D→M D} (T:Tx K mg) (F:Fun K "law" "law" s_law f fd) (F_l_mixed:FnD P w K mg base CX0 k "_law_mixed" 2 m_l_mixed) (F_l_sum:FnD P w K mg base CX0 k "_law_sum" 3 m_l_sum) (F_l_written:FnD P w K mg base CX0 k "_law_written" 1 m_l_written) (F_l_changed:FnD P w K mg base CX0 k "_law_changed" 2 m_l_changed) (F_l_drawn:FnD P w K mg base CX0 k "_law_drawn" 2 m_l_drawn) (F_l_found:FnD P w K mg base CX0 k "_law_found" 2 m_l_found) (F_l_due:FnD P w K mg base CX0 k "_law_due" 2 m_l_due) (F_l_is_sum:FnD P w K mg base CX0 k "_law_is_sum" 2 m_l_is_sum)
    (hm:m=fun ds=>okM (fin (R.g_law_k03 m_l_mixed m_l_sum m_l_written m_l_changed m_l_drawn m_l_found m_l_due m_l_is_sum (startN 7 ds)))):FnOk P w K mg base CX0 (k + 1) f fd p_law (spM K p_law.length m):=
  Fun.d (g:=R.g_law_k03 m_l_mixed m_l_sum m_l_written m_l_changed m_l_drawn m_l_found m_l_due m_l_is_sum) F sc_law (fun cdv A outer s H E hr F0 H0=>(dss_cons (ds_set 1 sc_law.nd (de_ix (de_tup (da_cons de_int (da_cons de_int (da_cons de_int da_nil)))) (de_mod (de_call F_l_mixed hr rfl pass0' (da_cons (de_var 0) (da_cons de_int da_nil))) de_int) (fun _ _=>rfl)))
    (dss_cons (ds_set 2 sc_law.nd (de_call F_l_sum hr rfl pass0' (da_cons (de_call F_l_mixed hr rfl pass0' (da_cons (de_var 0) (da_cons de_int da_nil))) (da_cons (de_var 1) (da_cons de_int da_nil)))))
    (dss_cons (ds_set 3 sc_law.nd (de_call F_l_written hr rfl pass0' (da_cons (de_var 2) da_nil)))
    (dss_cons (ds_set 4 sc_law.nd (de_call F_l_mixed hr rfl pass0' (da_cons (de_var 0) (da_cons de_int da_nil))))
    (dss_cons (ds_for PassesOwn.never rfl (di_range1 rfl T.b_range (da_cons (de_mul (de_mod (de_var 4) de_int) (de_add de_int (de_mod (de_div (de_var 4) de_int) de_int))) da_nil)) (fun _=>(dg_name 5 sc_law.nd)) (fun _=>(dss_one (ds_set 3 sc_law.nd (de_call F_l_changed hr rfl pass0' (da_cons (de_var 3) (da_cons (de_call F_l_drawn hr rfl pass0' (da_cons (de_var 4) (da_cons (de_var 5) da_nil))) da_nil)))))))
    (dss_cons (ds_set 6 sc_law.nd (de_call F_l_found hr rfl pass0' (da_cons (de_var 3) (da_cons (de_var 1) da_nil))))
    (dss_one (ds_ret (de_and (de_eq hr.units (de_var 6) (de_call F_l_due hr rfl pass0' (da_cons (de_var 3) (da_cons (de_var 1) da_nil)))) (de_one (de_or (de_isN (de_var 6)) (de_one (de_call F_l_is_sum hr rfl pass0' (da_cons (de_var 6) (da_cons (de_var 1) da_nil)))))))))))))))) (okM_hg hm)
theorem all_mk {l:PySem.W.OpenLaw} {w:World} {K:PySem.W.Frag} {h:Heap} {mg:Str→Option Value} {fa:Addr} (X:K.In h) (G:h.Ns mainGlobals mg) (hfa:mg "law" = some (.ref fa))
    {f1:Addr} {od1 an1:Option Addr} {sl1:Array (Option Value)} {oc1 kV1 dc1 pm1 cd1 ct1:Value}
    (a1:PySem.W.nsIn K mainGlobals "written_term" = some (some (.ref f1))) (l1:K.lookup f1=some ⟨oc1,od1,.func (PySem.W.fnOf "written_term" "written_term" (defArgs s_written_term) (defBody s_written_term) (defScope s_written_term) .none kV1 dc1 pm1 an1 cd1 ct1),sl1⟩) (c1:PySem.W.codeIn K cd1 "written_term" = true) (k1:PySem.W.keepIn K (.ref f1)=true)
    {f2:Addr} {od2 an2:Option Addr} {sl2:Array (Option Value)} {oc2 kV2 dc2 pm2 cd2 ct2:Value}
    (a2:PySem.W.nsIn K mainGlobals "known_terms" = some (some (.ref f2))) (l2:K.lookup f2=some ⟨oc2,od2,.func (PySem.W.fnOf "known_terms" "known_terms" (defArgs s_known_terms) (defBody s_known_terms) (defScope s_known_terms) .none kV2 dc2 pm2 an2 cd2 ct2),sl2⟩) (c2:PySem.W.codeIn K cd2 "known_terms" = true) (k2:PySem.W.keepIn K (.ref f2)=true)
    {f3:Addr} {od3 an3:Option Addr} {sl3:Array (Option Value)} {oc3 kV3 dc3 pm3 cd3 ct3:Value}
    (a3:PySem.W.nsIn K mainGlobals "with_term" = some (some (.ref f3))) (l3:K.lookup f3=some ⟨oc3,od3,.func (PySem.W.fnOf "with_term" "with_term" (defArgs s_with_term_x) (defBody s_with_term_x) (defScope s_with_term_x) .none kV3 dc3 pm3 an3 cd3 ct3),sl3⟩) (c3:PySem.W.codeIn K cd3 "with_term" = true) (k3:PySem.W.keepIn K (.ref f3)=true)
    {f4:Addr} {od4 an4:Option Addr} {sl4:Array (Option Value)} {oc4 kV4 dc4 pm4 cd4 ct4:Value}
    (a4:PySem.W.nsIn K mainGlobals "read" = some (some (.ref f4))) (l4:K.lookup f4=some ⟨oc4,od4,.func (PySem.W.fnOf "read" "read" (defArgs s_read_x) (defBody s_read_x) (defScope s_read_x) .none kV4 dc4 pm4 an4 cd4 ct4),sl4⟩) (c4:PySem.W.codeIn K cd4 "read" = true) (k4:PySem.W.keepIn K (.ref f4)=true)
    {f5:Addr} {od5 an5:Option Addr} {sl5:Array (Option Value)} {oc5 kV5 dc5 pm5 cd5 ct5:Value}
    (a5:PySem.W.nsIn K mainGlobals "_law_cell_at" = some (some (.ref f5))) (l5:K.lookup f5=some ⟨oc5,od5,.func (PySem.W.fnOf "_law_cell_at" "_law_cell_at" (defArgs s_l_cell_at) (defBody s_l_cell_at) (defScope s_l_cell_at) .none kV5 dc5 pm5 an5 cd5 ct5),sl5⟩) (c5:PySem.W.codeIn K cd5 "_law_cell_at" = true) (k5:PySem.W.keepIn K (.ref f5)=true)
    {f6:Addr} {od6 an6:Option Addr} {sl6:Array (Option Value)} {oc6 kV6 dc6 pm6 cd6 ct6:Value}
    (a6:PySem.W.nsIn K mainGlobals "_law_mixed" = some (some (.ref f6))) (l6:K.lookup f6=some ⟨oc6,od6,.func (PySem.W.fnOf "_law_mixed" "_law_mixed" (defArgs s_l_mixed) (defBody s_l_mixed) (defScope s_l_mixed) .none kV6 dc6 pm6 an6 cd6 ct6),sl6⟩) (c6:PySem.W.codeIn K cd6 "_law_mixed" = true) (k6:PySem.W.keepIn K (.ref f6)=true)
    {f7:Addr} {od7 an7:Option Addr} {sl7:Array (Option Value)} {oc7 kV7 dc7 pm7 cd7 ct7:Value}
    (a7:PySem.W.nsIn K mainGlobals "_law_drawn" = some (some (.ref f7))) (l7:K.lookup f7=some ⟨oc7,od7,.func (PySem.W.fnOf "_law_drawn" "_law_drawn" (defArgs s_l_drawn) (defBody s_l_drawn) (defScope s_l_drawn) .none kV7 dc7 pm7 an7 cd7 ct7),sl7⟩) (c7:PySem.W.codeIn K cd7 "_law_drawn" = true) (k7:PySem.W.keepIn K (.ref f7)=true)
    {f8:Addr} {od8 an8:Option Addr} {sl8:Array (Option Value)} {oc8 kV8 dc8 pm8 cd8 ct8:Value}
    (a8:PySem.W.nsIn K mainGlobals "_law_number" = some (some (.ref f8))) (l8:K.lookup f8=some ⟨oc8,od8,.func (PySem.W.fnOf "_law_number" "_law_number" (defArgs s_l_number) (defBody s_l_number) (defScope s_l_number) .none kV8 dc8 pm8 an8 cd8 ct8),sl8⟩) (c8:PySem.W.codeIn K cd8 "_law_number" = true) (k8:PySem.W.keepIn K (.ref f8)=true)
    {f9:Addr} {od9 an9:Option Addr} {sl9:Array (Option Value)} {oc9 kV9 dc9 pm9 cd9 ct9:Value}
    (a9:PySem.W.nsIn K mainGlobals "_law_sum" = some (some (.ref f9))) (l9:K.lookup f9=some ⟨oc9,od9,.func (PySem.W.fnOf "_law_sum" "_law_sum" (defArgs s_l_sum) (defBody s_l_sum) (defScope s_l_sum) .none kV9 dc9 pm9 an9 cd9 ct9),sl9⟩) (c9:PySem.W.codeIn K cd9 "_law_sum" = true) (k9:PySem.W.keepIn K (.ref f9)=true)
    {f10:Addr} {od10 an10:Option Addr} {sl10:Array (Option Value)} {oc10 kV10 dc10 pm10 cd10 ct10:Value}
    (a10:PySem.W.nsIn K mainGlobals "_law_is_long_sum" = some (some (.ref f10))) (l10:K.lookup f10=some ⟨oc10,od10,.func (PySem.W.fnOf "_law_is_long_sum" "_law_is_long_sum" (defArgs s_l_is_long_sum) (defBody s_l_is_long_sum) (defScope s_l_is_long_sum) .none kV10 dc10 pm10 an10 cd10 ct10),sl10⟩) (c10:PySem.W.codeIn K cd10 "_law_is_long_sum" = true) (k10:PySem.W.keepIn K (.ref f10)=true)
    {f11:Addr} {od11 an11:Option Addr} {sl11:Array (Option Value)} {oc11 kV11 dc11 pm11 cd11 ct11:Value}
    (a11:PySem.W.nsIn K mainGlobals "_law_is_sum" = some (some (.ref f11))) (l11:K.lookup f11=some ⟨oc11,od11,.func (PySem.W.fnOf "_law_is_sum" "_law_is_sum" (defArgs s_l_is_sum) (defBody s_l_is_sum) (defScope s_l_is_sum) .none kV11 dc11 pm11 an11 cd11 ct11),sl11⟩) (c11:PySem.W.codeIn K cd11 "_law_is_sum" = true) (k11:PySem.W.keepIn K (.ref f11)=true)
    {f12:Addr} {od12 an12:Option Addr} {sl12:Array (Option Value)} {oc12 kV12 dc12 pm12 cd12 ct12:Value}
    (a12:PySem.W.nsIn K mainGlobals "_law_written" = some (some (.ref f12))) (l12:K.lookup f12=some ⟨oc12,od12,.func (PySem.W.fnOf "_law_written" "_law_written" (defArgs s_l_written) (defBody s_l_written) (defScope s_l_written) .none kV12 dc12 pm12 an12 cd12 ct12),sl12⟩) (c12:PySem.W.codeIn K cd12 "_law_written" = true) (k12:PySem.W.keepIn K (.ref f12)=true)
    {f13:Addr} {od13 an13:Option Addr} {sl13:Array (Option Value)} {oc13 kV13 dc13 pm13 cd13 ct13:Value}
    (a13:PySem.W.nsIn K mainGlobals "_law_changed" = some (some (.ref f13))) (l13:K.lookup f13=some ⟨oc13,od13,.func (PySem.W.fnOf "_law_changed" "_law_changed" (defArgs s_l_changed) (defBody s_l_changed) (defScope s_l_changed) .none kV13 dc13 pm13 an13 cd13 ct13),sl13⟩) (c13:PySem.W.codeIn K cd13 "_law_changed" = true) (k13:PySem.W.keepIn K (.ref f13)=true)
    {f14:Addr} {od14 an14:Option Addr} {sl14:Array (Option Value)} {oc14 kV14 dc14 pm14 cd14 ct14:Value}
    (a14:PySem.W.nsIn K mainGlobals "_law_figure" = some (some (.ref f14))) (l14:K.lookup f14=some ⟨oc14,od14,.func (PySem.W.fnOf "_law_figure" "_law_figure" (defArgs s_l_figure) (defBody s_l_figure) (defScope s_l_figure) .none kV14 dc14 pm14 an14 cd14 ct14),sl14⟩) (c14:PySem.W.codeIn K cd14 "_law_figure" = true) (k14:PySem.W.keepIn K (.ref f14)=true)
    {f15:Addr} {od15 an15:Option Addr} {sl15:Array (Option Value)} {oc15 kV15 dc15 pm15 cd15 ct15:Value}
    (a15:PySem.W.nsIn K mainGlobals "_law_due" = some (some (.ref f15))) (l15:K.lookup f15=some ⟨oc15,od15,.func (PySem.W.fnOf "_law_due" "_law_due" (defArgs s_l_due) (defBody s_l_due) (defScope s_l_due) .none kV15 dc15 pm15 an15 cd15 ct15),sl15⟩) (c15:PySem.W.codeIn K cd15 "_law_due" = true) (k15:PySem.W.keepIn K (.ref f15)=true)
    {f16:Addr} {od16 an16:Option Addr} {sl16:Array (Option Value)} {oc16 kV16 dc16 pm16 cd16 ct16:Value}
    (a16:PySem.W.nsIn K mainGlobals "_law_found" = some (some (.ref f16))) (l16:K.lookup f16=some ⟨oc16,od16,.func (PySem.W.fnOf "_law_found" "_law_found" (defArgs s_l_found) (defBody s_l_found) (defScope s_l_found) .none kV16 dc16 pm16 an16 cd16 ct16),sl16⟩) (c16:PySem.W.codeIn K cd16 "_law_found" = true) (k16:PySem.W.keepIn K (.ref f16)=true)
    {f17:Addr} {od17 an17:Option Addr} {sl17:Array (Option Value)} {oc17 kV17 dc17 pm17 cd17 ct17:Value}
    (a17:PySem.W.nsIn K mainGlobals "law" = some (some (.ref f17))) (l17:K.lookup f17=some ⟨oc17,od17,.func (PySem.W.fnOf "law" "law" (defArgs s_law) (defBody s_law) (defScope s_law) .none kV17 dc17 pm17 an17 cd17 ct17),sl17⟩) (c17:PySem.W.codeIn K cd17 "law" = true) (k17:PySem.W.keepIn K (.ref f17)=true)
    (z_ValueError:PySem.W.nsIn K mainGlobals "ValueError" = some none)
    (z_bool:PySem.W.nsIn K mainGlobals "bool" = some none)
    (z_int:PySem.W.nsIn K mainGlobals "int" = some none)
    (z_isinstance:PySem.W.nsIn K mainGlobals "isinstance" = some none)
    (z_len:PySem.W.nsIn K mainGlobals "len" = some none)
    (z_range:PySem.W.nsIn K mainGlobals "range" = some none)
    (z_reversed:PySem.W.nsIn K mainGlobals "reversed" = some none)
    (z_str:PySem.W.nsIn K mainGlobals "str" = some none)
    (z_tuple:PySem.W.nsIn K mainGlobals "tuple" = some none)
    {tk_BETWEEN:Tok} (y_BETWEEN:PySem.W.nsIn K mainGlobals "BETWEEN" = some (some (.str " + " tk_BETWEEN)))
    {tk_MOST_NUMBERS:Tok} (y_MOST_NUMBERS:PySem.W.nsIn K mainGlobals "MOST_NUMBERS" = some (some (.int 9 tk_MOST_NUMBERS)))
    {tk_NOUGHT:Tok} (y_NOUGHT:PySem.W.nsIn K mainGlobals "NOUGHT" = some (some (.str "0" tk_NOUGHT)))
    {C0 C1 C2 C3:Addr}
    (xn0:PySem.W.nsIn K mainGlobals "FoldError" = some (some (.ref C0)))
    (xn1:PySem.W.nsIn K mainGlobals "NoSum" = some (some (.ref C1)))
    (xn2:PySem.W.nsIn K mainGlobals "NoText" = some (some (.ref C2)))
    (xn3:PySem.W.nsIn K mainGlobals "NoPart" = some (some (.ref C3)))
    (xgs:PySem.W.specialIn K (.builtin "object.__class__") "__get__" = some (some (.builtin "getset_descriptor.__get__")))
    (xtk:PySem.W.takesIn K (.builtin "object.__class__")=some true)
    (xe2:PySem.W.excIn K C2 vb "ValueError.__new__" = true)
    (xga2:PySem.W.findIn K (.ref C2) "__getattribute__" = some (some (.builtin "BaseException.__getattribute__")))
    (xgt2:PySem.W.findIn K (.ref C2) "__getattr__" = some none)
    (xcl2:PySem.W.findIn K (.ref C2) "__class__" = some (some (.builtin "object.__class__")))
    (xob2:PySem.W.mroIn K C2 (.type "object")=some true)
    (xbe2:PySem.W.mroIn K C2 (.type "BaseException")=some true)
    (xve:PySem.W.mroIn K C2 (.type "ValueError")=some true)
    (xm0:PySem.W.mroIn K C2 (.ref C0)=some true)
    (xt0:PySem.W.typeIn K (.ref C0)=some (.type "type"))
    (xi0:PySem.W.isClsIn K C0=true)
    (xm1:PySem.W.mroIn K C2 (.ref C1)=some false)
    (xt1:PySem.W.typeIn K (.ref C1)=some (.type "type"))
    (xi1:PySem.W.isClsIn K C1=true)
    (xm2:PySem.W.mroIn K C2 (.ref C2)=some true)
    (xt2:PySem.W.typeIn K (.ref C2)=some (.type "type"))
    (xi2:PySem.W.isClsIn K C2=true)
    (xm3:PySem.W.mroIn K C2 (.ref C3)=some false)
    (xt3:PySem.W.typeIn K (.ref C3)=some (.type "type"))
    (xi3:PySem.W.isClsIn K C3=true)
    : ∃ fd:FuncData,(∀ (s:Shared) (v:Value),BindsTo s fd ⟨[v],[]⟩ [("_law_script",v)])∧∀ base:Heap,K.In base→base.Ns mainGlobals mg→FnOk l.prog w K mg base CX0 5 fa fd ["_law_script"] (spM K 1 R.m_law_k03):=by
  have e:=hfa.symm.trans (PySem.W.mg_of X G a17)
  cases e
  have T:Tx K mg:=⟨PySem.W.mg_none_of X G z_ValueError,PySem.W.mg_none_of X G z_bool,PySem.W.mg_none_of X G z_int,PySem.W.mg_none_of X G z_isinstance,PySem.W.mg_none_of X G z_len,PySem.W.mg_none_of X G z_range,PySem.W.mg_none_of X G z_reversed,PySem.W.mg_none_of X G z_str,PySem.W.mg_none_of X G z_tuple,⟨_,PySem.W.mg_of X G y_BETWEEN⟩,⟨_,PySem.W.mg_of X G y_MOST_NUMBERS⟩,⟨_,PySem.W.mg_of X G y_NOUGHT⟩⟩
  have kE2:ExK K C2:=⟨xe2,xga2,xgt2,xcl2,xgs,xtk,xob2,xbe2,xt2,xi2⟩
  have T4:Four K mg C0 C1 C2 C3:=⟨xn0,xn1,xn2,xn3,PySem.W.mg_of X G xn0,PySem.W.mg_of X G xn1,PySem.W.mg_of X G xn2,PySem.W.mg_of X G xn3,T.b_ValueError,T.b_isinstance,T.b_int⟩
  have KI:Kin2 K C0 C1 C2 C3:=Kin2.of xm0 xm1 xm2 xm3 xve xt0 xt1 xt3 xi0 xi1 xi3
  have F1:=fun_mk (st:=s_written_term) l1 c1 k1
  have b1:=F1.binds (ps:=p_written_term) fun _ _ _ _ _ _ us hl=>match us,hl with | [_,_],_=>rfl
  have F2:=fun_mk (st:=s_known_terms) l2 c2 k2
  have b2:=F2.binds (ps:=p_known_terms) fun _ _ _ _ _ _ us hl=>match us,hl with | [_],_=>rfl
  have F3:=fun_mk (st:=s_with_term_x) l3 c3 k3
  have b3:=F3.binds (ps:=p_with_term_x) fun _ _ _ _ _ _ us hl=>match us,hl with | [_,_,_],_=>rfl
  have F4:=fun_mk (st:=s_read_x) l4 c4 k4
  have b4:=F4.binds (ps:=p_read_x) fun _ _ _ _ _ _ us hl=>match us,hl with | [_,_],_=>rfl
  have F5:=fun_mk (st:=s_l_cell_at) l5 c5 k5
  have b5:=F5.binds (ps:=p_l_cell_at) fun _ _ _ _ _ _ us hl=>match us,hl with | [_,_],_=>rfl
  have F6:=fun_mk (st:=s_l_mixed) l6 c6 k6
  have b6:=F6.binds (ps:=p_l_mixed) fun _ _ _ _ _ _ us hl=>match us,hl with | [_,_],_=>rfl
  have F7:=fun_mk (st:=s_l_drawn) l7 c7 k7
  have b7:=F7.binds (ps:=p_l_drawn) fun _ _ _ _ _ _ us hl=>match us,hl with | [_,_],_=>rfl
  have F8:=fun_mk (st:=s_l_number) l8 c8 k8
  have b8:=F8.binds (ps:=p_l_number) fun _ _ _ _ _ _ us hl=>match us,hl with | [_,_,_],_=>rfl
  have F9:=fun_mk (st:=s_l_sum) l9 c9 k9
  have b9:=F9.binds (ps:=p_l_sum) fun _ _ _ _ _ _ us hl=>match us,hl with | [_,_,_],_=>rfl
  have F10:=fun_mk (st:=s_l_is_long_sum) l10 c10 k10
  have b10:=F10.binds (ps:=p_l_is_long_sum) fun _ _ _ _ _ _ us hl=>match us,hl with | [_,_],_=>rfl
  have F11:=fun_mk (st:=s_l_is_sum) l11 c11 k11
  have b11:=F11.binds (ps:=p_l_is_sum) fun _ _ _ _ _ _ us hl=>match us,hl with | [_,_],_=>rfl
  have F12:=fun_mk (st:=s_l_written) l12 c12 k12
  have b12:=F12.binds (ps:=p_l_written) fun _ _ _ _ _ _ us hl=>match us,hl with | [_],_=>rfl
  have F13:=fun_mk (st:=s_l_changed) l13 c13 k13
  have b13:=F13.binds (ps:=p_l_changed) fun _ _ _ _ _ _ us hl=>match us,hl with | [_,_],_=>rfl
  have F14:=fun_mk (st:=s_l_figure) l14 c14 k14
  have b14:=F14.binds (ps:=p_l_figure) fun _ _ _ _ _ _ us hl=>match us,hl with | [_,_],_=>rfl
  have F15:=fun_mk (st:=s_l_due) l15 c15 k15
  have b15:=F15.binds (ps:=p_l_due) fun _ _ _ _ _ _ us hl=>match us,hl with | [_,_],_=>rfl
  have F16:=fun_mk (st:=s_l_found) l16 c16 k16
  have b16:=F16.binds (ps:=p_l_found) fun _ _ _ _ _ _ us hl=>match us,hl with | [_,_],_=>rfl
  have F17:=fun_mk (st:=s_law) l17 c17 k17
  refine ⟨PySem.W.fnOf "law" "law" (defArgs s_law) (defBody s_law) (defScope s_law) .none kV17 dc17 pm17 an17 cd17 ct17,fun s v=>.of_eq rfl,fun base _ _=>?_⟩
  have D_written_term:=Fun.fnd (P:=l.prog) (w:=w) (base:=base) (CX:=CX0) (PySem.W.mg_of X G a1) k1 b1 (ok_written_term (k:=0) T F1  rfl)
  have D_known_terms:=Fun.fnd (P:=l.prog) (w:=w) (base:=base) (CX:=CX0) (PySem.W.mg_of X G a2) k2 b2 (ok_known_terms (k:=1) T F2 (D_written_term.mono (by decide)) rfl)
  have D_with_term_x:=Fun.fnd (P:=l.prog) (w:=w) (base:=base) (CX:=CXE K l.prog w) (PySem.W.mg_of X G a3) k3 b3 (ok_with_term_x (k:=0) T T4 kE2 KI F3  rfl)
  have D_read_x:=Fun.fnd (P:=l.prog) (w:=w) (base:=base) (CX:=CXE K l.prog w) (PySem.W.mg_of X G a4) k4 b4 (ok_read_x (k:=2) T T4 kE2 KI F4 (D_known_terms.mono (by decide)) (D_with_term_x.mono (by decide)) rfl)
  have D_l_cell_at:=Fun.fnd (P:=l.prog) (w:=w) (base:=base) (CX:=CX0) (PySem.W.mg_of X G a5) k5 b5 (ok_l_cell_at (k:=0) T F5  rfl)
  have D_l_mixed:=Fun.fnd (P:=l.prog) (w:=w) (base:=base) (CX:=CX0) (PySem.W.mg_of X G a6) k6 b6 (ok_l_mixed (k:=1) T F6 (D_l_cell_at.mono (by decide)) rfl)
  have D_l_drawn:=Fun.fnd (P:=l.prog) (w:=w) (base:=base) (CX:=CX0) (PySem.W.mg_of X G a7) k7 b7 (ok_l_drawn (k:=0) T F7  rfl)
  have D_l_number:=Fun.fnd (P:=l.prog) (w:=w) (base:=base) (CX:=CX0) (PySem.W.mg_of X G a8) k8 b8 (ok_l_number (k:=0) T F8  rfl)
  have D_l_sum:=Fun.fnd (P:=l.prog) (w:=w) (base:=base) (CX:=CX0) (PySem.W.mg_of X G a9) k9 b9 (ok_l_sum (k:=1) T F9 (D_l_drawn.mono (by decide)) rfl)
  have D_l_is_long_sum:=Fun.fnd (P:=l.prog) (w:=w) (base:=base) (CX:=CX0) (PySem.W.mg_of X G a10) k10 b10 (ok_l_is_long_sum (k:=1) T F10 (D_l_number.mono (by decide)) rfl)
  have D_l_is_sum:=Fun.fnd (P:=l.prog) (w:=w) (base:=base) (CX:=CX0) (PySem.W.mg_of X G a11) k11 b11 (ok_l_is_sum (k:=2) T F11 (D_l_is_long_sum.mono (by decide)) rfl)
  have D_l_written:=Fun.fnd (P:=l.prog) (w:=w) (base:=base) (CX:=CX0) (PySem.W.mg_of X G a12) k12 b12 (ok_l_written (k:=0) T F12  rfl)
  have D_l_changed:=Fun.fnd (P:=l.prog) (w:=w) (base:=base) (CX:=CX0) (PySem.W.mg_of X G a13) k13 b13 (ok_l_changed (k:=0) T F13  rfl)
  have D_l_figure:=Fun.fnd (P:=l.prog) (w:=w) (base:=base) (CX:=CX0) (PySem.W.mg_of X G a14) k14 b14 (ok_l_figure (k:=0) T F14  rfl)
  have D_l_due:=Fun.fnd (P:=l.prog) (w:=w) (base:=base) (CX:=CX0) (PySem.W.mg_of X G a15) k15 b15 (ok_l_due (k:=3) T F15 (D_l_figure.mono (by decide)) (D_l_is_sum.mono (by decide)) (D_l_written.mono (by decide)) rfl)
  have D_l_found:=Fun.fnd (P:=l.prog) (w:=w) (base:=base) (CX:=CX0) (PySem.W.mg_of X G a16) k16 b16 (ok_l_found (k:=3) T T4 kE2 KI F16 (D_read_x.mono (by decide)) rfl)
  exact ok_law (k:=4) T F17 (D_l_mixed.mono (by decide)) (D_l_sum.mono (by decide)) (D_l_written.mono (by decide)) (D_l_changed.mono (by decide)) (D_l_drawn.mono (by decide)) (D_l_found.mono (by decide)) (D_l_due.mono (by decide)) (D_l_is_sum.mono (by decide)) rfl
end K03
open PySem PySem.W PyProof.Rows
set_option maxRecDepth 100000 in
set_option maxHeartbeats 0 in
theorem PySem.Challenge.cw_primefold_k03_whole_read_holds : PySem.Challenge.rw_primefold_k03_whole_read.Holds := by
  w_on; o_law; k_head; (case hw=>w_witness2)
  k_fill
  refine PF.walkM (l:=PySem.Challenge.rw_primefold_k03_whole_read) (k:=5) (m:=R.m_law_k03) (x := "_law_script") ⟨rfl,by decide,by decide⟩ rfl rfl K03.law_holds (fun w h Y=>PySem.W.kIn_of Y) ?F
  case F=>
    intro w mg fa h KX G hmg
    refine' K03.all_mk KX G hmg ?a1 ?l1 ?c1 ?k1 ?a2 ?l2 ?c2 ?k2 ?a3 ?l3 ?c3 ?k3 ?a4 ?l4 ?c4 ?k4 ?a5 ?l5 ?c5 ?k5 ?a6 ?l6 ?c6 ?k6 ?a7 ?l7 ?c7 ?k7 ?a8 ?l8 ?c8 ?k8 ?a9 ?l9 ?c9 ?k9 ?a10 ?l10 ?c10 ?k10 ?a11 ?l11 ?c11 ?k11 ?a12 ?l12 ?c12 ?k12 ?a13 ?l13 ?c13 ?k13 ?a14 ?l14 ?c14 ?k14 ?a15 ?l15 ?c15 ?k15 ?a16 ?l16 ?c16 ?k16 ?a17 ?l17 ?c17 ?k17 ?z_ValueError ?z_bool ?z_int ?z_isinstance ?z_len ?z_range ?z_reversed ?z_str ?z_tuple ?y_BETWEEN ?y_MOST_NUMBERS ?y_NOUGHT ?xn0 ?xn1 ?xn2 ?xn3 ?xgs ?xtk ?xe2 ?xga2 ?xgt2 ?xcl2 ?xob2 ?xbe2 ?xve ?xm0 ?xt0 ?xi0 ?xm1 ?xt1 ?xi1 ?xm2 ?xt2 ?xi2 ?xm3 ?xt3 ?xi3
    (case a1=>k_is)
    (case l1=>k_is)
    (case c1=>k_is)
    (case k1=>k_is)
    (case a2=>k_is)
    (case l2=>k_is)
    (case c2=>k_is)
    (case k2=>k_is)
    (case a3=>k_is)
    (case l3=>k_is)
    (case c3=>k_is)
    (case k3=>k_is)
    (case a4=>k_is)
    (case l4=>k_is)
    (case c4=>k_is)
    (case k4=>k_is)
    (case a5=>k_is)
    (case l5=>k_is)
    (case c5=>k_is)
    (case k5=>k_is)
    (case a6=>k_is)
    (case l6=>k_is)
    (case c6=>k_is)
    (case k6=>k_is)
    (case a7=>k_is)
    (case l7=>k_is)
    (case c7=>k_is)
    (case k7=>k_is)
    (case a8=>k_is)
    (case l8=>k_is)
    (case c8=>k_is)
    (case k8=>k_is)
    (case a9=>k_is)
    (case l9=>k_is)
    (case c9=>k_is)
    (case k9=>k_is)
    (case a10=>k_is)
    (case l10=>k_is)
    (case c10=>k_is)
    (case k10=>k_is)
    (case a11=>k_is)
    (case l11=>k_is)
    (case c11=>k_is)
    (case k11=>k_is)
    (case a12=>k_is)
    (case l12=>k_is)
    (case c12=>k_is)
    (case k12=>k_is)
    (case a13=>k_is)
    (case l13=>k_is)
    (case c13=>k_is)
    (case k13=>k_is)
    (case a14=>k_is)
    (case l14=>k_is)
    (case c14=>k_is)
    (case k14=>k_is)
    (case a15=>k_is)
    (case l15=>k_is)
    (case c15=>k_is)
    (case k15=>k_is)
    (case a16=>k_is)
    (case l16=>k_is)
    (case c16=>k_is)
    (case k16=>k_is)
    (case a17=>k_is)
    (case l17=>k_is)
    (case c17=>k_is)
    (case k17=>k_is)
    (case z_ValueError=>k_is)
    (case z_bool=>k_is)
    (case z_int=>k_is)
    (case z_isinstance=>k_is)
    (case z_len=>k_is)
    (case z_range=>k_is)
    (case z_reversed=>k_is)
    (case z_str=>k_is)
    (case z_tuple=>k_is)
    (case y_BETWEEN=>k_is)
    (case y_MOST_NUMBERS=>k_is)
    (case y_NOUGHT=>k_is)
    (case xn0=>k_is)
    (case xn1=>k_is)
    (case xn2=>k_is)
    (case xn3=>k_is)
    (case xgs=>k_is)
    (case xtk=>k_is)
    (case xe2=>k_exc)
    (case xga2=>k_is)
    (case xgt2=>k_is)
    (case xcl2=>k_is)
    (case xob2=>k_is)
    (case xbe2=>k_is)
    (case xve=>k_is)
    (case xm0=>k_is)
    (case xt0=>k_is)
    (case xi0=>k_is)
    (case xm1=>k_is)
    (case xt1=>k_is)
    (case xi1=>k_is)
    (case xm2=>k_is)
    (case xt2=>k_is)
    (case xi2=>k_is)
    (case xm3=>k_is)
    (case xt3=>k_is)
    (case xi3=>k_is)
#print axioms PySem.Challenge.cw_primefold_k03_whole_read_holds
