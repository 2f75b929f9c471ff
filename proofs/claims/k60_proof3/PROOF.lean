import PyProof.Rows.All
import Wide.All
import OpenK.AllK
import Wide.FinOn
import Lean
import PyProof.EqAt
import PyProof.EqKinds
import PyProof.TupleCall
import PyProof.DictWalks
import PyProof.ExcAttrAll.ValueError
import PyProof.ExcBaseAll.ValueError
import PyProof.ZipIter
import PyProof.SumWalk
import PyProof.Rows.SortShellK
import PyProof.Rows.SortStr
import PyProof.DictKinds
import PyProof.Rows.CallKwBuiltin
import PyProof.ListRange
import PySem.Challenge.RW_ownshelf_k60_whole_makes_share_nodes
set_option Elab.async false
set_option linter.all false
set_option maxRecDepth 100000
set_option maxHeartbeats 8000000
set_option compiler.extract_closed false
set_option compiler.reuse false
set_option bootstrap.genMatcherCode false
abbrev zFr:=PySem.W.Frag
abbrev zLA:=List (PySem.Str×PySem.Addr)
abbrev zAO:=List (PySem.Addr×PySem.Obj)
abbrev zVP:=PySem.Value->PySem.Shared->Prop
abbrev zMg:=PySem.Str->Option PySem.Value
abbrev z03:=@List.length_append
abbrev z04:=@Nat.le_of_ble_eq_true
abbrev z05:=@List.mem_singleton
abbrev z06:=@List.getElem?_eq_some_iff
abbrev z07:=@Nat.le_refl
abbrev z08:=@List.getElem?_eq_getElem
abbrev z09:=@List.mem_cons_of_mem
abbrev z1a:=@List.getElem?_append_right
abbrev z1b:=@decide_eq_false
abbrev z1c:=@decide_eq_true
abbrev z1d:=@Nat.lt_of_lt_of_le
abbrev z1e:=@List.mem_cons
abbrev z1f:=@List.mem_append_right
abbrev z1g:=@List.map_cons
abbrev z1h:=@List.size_toArray
abbrev z1i:=@PySem.Heap.get?_push_of_some
abbrev z1j:=@List.mem_cons_self
abbrev z1k:=@List.getElem?_append_left
abbrev z1l:=@PySem.Heap.lt_size
abbrev z1m:=@List.mem_of_getElem?
abbrev z1n:=@List.length_take
abbrev z1o:=@Nat.ne_of_lt
abbrev z1p:=@List.mem_append
abbrev z1q:=@List.length_map
abbrev z1r:=@List.getElem?_map
abbrev z1s:=@Option.some.inj
abbrev z1t:=@if_pos
abbrev z1u:=@Nat.le_trans
abbrev z1v:=@PySem.wpAny_bind
abbrev z1w:=@PySem.Heap.get?_push_size
abbrev z1x:=@List.mem_map
abbrev z1y:=@Nat.zero_le
abbrev z1z:=@List.append_nil
abbrev z10:=@if_neg
abbrev z11:=@Int.emod_lt_of_pos
abbrev z12:=@List.all_eq_true
abbrev z13:=@List.mem_of_mem_take
abbrev z14:=@PySem.sizeLine_eq
abbrev z15:=@Bool.and_eq_true
abbrev z16:=@Bool.false_ne_true
abbrev z17:=@List.getElem?_set_self
abbrev z18:=@List.drop_eq_getElem_cons
abbrev z19:=@Int.emod_nonneg
abbrev z2a:=@List.cons.inj
abbrev z2b:=@Nat.le_add_right
abbrev z2c:=@List.length_drop
abbrev z2d:=@List.length_pos_iff
abbrev z2e:=@PySem.wpAny_truthy_bool
abbrev z2f:=@congrArg
abbrev z2g:=@List.nodup_cons
abbrev z2h:=@List.map_append
abbrev z2i:=@PySem.PassesOwn.never
abbrev z2j:=@PySem.mem_of_lookup
abbrev z2k:=@List.getElem_of_mem
abbrev z2l:=@List.cons.injEq
abbrev z2m:=@Option.isSome_iff_exists
abbrev z2n:=@List.mem_append_left
abbrev z2o:=@List.getElem?_set_ne
abbrev z2p:=@PySem.wpAny_pure
abbrev z2q:=@List.nodup_append
abbrev z2r:=@List.append_assoc
abbrev z2s:=@List.length_set
abbrev z2t:=@List.length_eraseIdx_of_lt
abbrev z2u:=@List.forall_mem_cons
abbrev z2v:=@PySem.wpAny_passesOwn
abbrev z2w:=@List.getElem?_take_of_lt
abbrev z2x:=@of_decide_eq_true
abbrev z2y:=@Nat.le_of_lt
abbrev z2z:=@beq_eq_false_iff_ne
abbrev z20:=@Nat.lt_irrefl
abbrev z21:=@List.mem_map_of_mem
abbrev z22:=@decide_eq_false_iff_not
abbrev z23:=@List.mem_range
abbrev z24:=@PySem.wpAny_mono
abbrev z25:=@List.drop_eq_nil_of_le
abbrev z26:=@PySem.wpAny_Call_Name_kw
abbrev z27:=@Nat.lt_of_le_of_lt
abbrev z28:=@PySem.W.mg_none_of
abbrev z29:=@List.of_mem_zip
abbrev z3a:=@List.set_append_right
abbrev z3b:=@Nat.lt_succ_self
abbrev z3c:=@List.mem_reverse
abbrev z3d:=@decide_eq_decide
abbrev z3e:=@PySem.F.args_tuple_add_2
abbrev z3f:=@Nat.sub_self
abbrev z3g:=@List.map_map
abbrev z3h:=@List.mem_filter
abbrev z3i:=@PySem.W.callWith_K
abbrev z3j:=@PySem.F.entry_tuple_add
abbrev z3k:=@PySem.W.mg_of
abbrev z3l:=@PySem.tupleKind_room_in1
abbrev z3m:=@Bool.false_eq_true
abbrev z3n:=@List.eraseIdx_append_of_length_le
abbrev z3o:=@List.pairwise_cons
abbrev z3p:=@PySem.F.slot_tuple_add
abbrev z3q:=@PySem.Calls.callWith_builtin
abbrev z3r:=@beq_iff_eq
abbrev z3s:=@Bool.eq_false_iff
abbrev z3t:=@PySem.F.slot_dict_get
abbrev z3u:=@Nat.lt_or_ge
abbrev z3v:=@Ne.symm
abbrev z3w:=@List.getElem_mem
abbrev z3x:=@Bool.and_eq_true_iff
abbrev z3y:=@PySem.wpAny_holding
abbrev z3z:=@Sum.inl.inj
abbrev z30:=@PySem.wpAny_execs_nil
abbrev z31:=@PyProof.Rows.callWith_type1
abbrev z32:=@PySem.W.plainGet_of
abbrev z33:=@Nat.not_lt_zero
abbrev z34:=@List.length_reverse
abbrev z35:=@PySem.Calls.spliced_cons
abbrev z36:=@List.pairwise_map
abbrev z37:=@Nat.le_succ
abbrev z38:=@Bool.and_true
abbrev z39:=@Int.add_assoc
abbrev z4a:=@List.getElem_inj
abbrev z4b:=@Nat.succ_le_succ
abbrev z4c:=@PySem.codeAny_mono
abbrev z4d:=@PySem.concat_meets
abbrev z4e:=@if_true
abbrev z4f:=@Int.add_zero
abbrev z4g:=@Int.zero_add
abbrev z4h:=@Nat.not_lt
abbrev z4i:=@List.nodup_nil
noncomputable section
namespace L2
open PySem PySem.Spec PyProof.Rows
abbrev Key:=Sum Int Str
def zgz:Key->Value->Bool
 | .inl k,v=>Value.isInt k v
 | .inr x,v=>Value.isStrOf x v
def z0r(w:World):Key->Int
 | .inl k=>hashInt k
 | .inr x=>hashStr w x
theorem jg:∀{k:Key}{v:Value},zgz k v=true->(∃i t,k=Sum.inl i/\v=Value.int i t)\/(∃x t,k=Sum.inr x/\v=Value.str x t)
 | .inl i,v,h=>by obtain⟨t,e⟩:=Value.isInt_shape (k:=i) (v:=v) h;exact .inl ⟨i,t,rfl,e⟩
 | .inr x,v,h=>by obtain⟨t,e⟩:=Value.isStrOf_shape (x:=x) (v:=v) h;exact .inr ⟨x,t,rfl,e⟩
theorem zll(i:Int)(t:Tok):zgz (.inl i) (.int i t)=true:=by simp[zgz,Value.isInt]
theorem zlk(x:Str)(t:Tok):zgz (.inr x) (.str x t)=true:=by simp[zgz,Value.isStrOf]
theorem zu9(a b:Int):decide ((Sum.inl a:Key)=Sum.inl b)=(a==b):=by
 by_cases e:a=b
 · subst e;simp
 · have h:¬ (Sum.inl a:Key)=Sum.inl b:=fun q=>e (z3z q);rw[z1b h];exact(z2z.mpr e).symm
theorem zu6(a b:Str):decide ((Sum.inr a:Key)=Sum.inr b)=decide (a=b):=by
 by_cases e:a=b
 · subst e;simp
 · have h:¬ (Sum.inr a:Key)=Sum.inr b:=fun q=>e (Sum.inr.inj q);rw[z1b h,z1b e]
theorem zu8(a:Int)(b:Str):decide ((Sum.inl a:Key)=Sum.inr b)=false:=z1b (fun q=>nomatch q)
theorem zu7(a:Str)(b:Int):decide ((Sum.inr a:Key)=Sum.inl b)=false:=z1b (fun q=>nomatch q)
def xb(prog:Program)(w:World):PySem.KeyKind prog w Key where
 is:=zgz
 hash:=z0r w
 inj:=fun v a b ha hb=>by
   rcases jg ha with⟨i,t,rfl,rfl⟩ | ⟨x,t,rfl,rfl⟩
   · rcases jg hb with⟨j,u,rfl,e⟩ | ⟨y,u,rfl,e⟩
     · injection e with e1 _;rw[e1]
     · exact nomatch e
   · rcases jg hb with⟨j,u,rfl,e⟩ | ⟨y,u,rfl,e⟩
     · exact nomatch e
     · injection e with e1 _;rw[e1]
 byValue:=fun k v h=>by rcases jg h with⟨i,t,rfl,rfl⟩ | ⟨x,t,rfl,rfl⟩<;>rfl
 pyHash:=fun hv h=>by
   rcases jg hv with⟨i,t,rfl,rfl⟩ | ⟨x,t,rfl,rfl⟩
   · exact wpAny_pyHash_int h
   · exact wpAny_pyHash_str h
 eqBool:=fun hu hv h=>by
   rcases jg hu with⟨i,t,rfl,rfl⟩ | ⟨x,t,rfl,rfl⟩
   · rcases jg hv with⟨j,u,rfl,rfl⟩ | ⟨y,u,rfl,rfl⟩
     · rw[zu9]at h;exact wpAny_eqBool_int h
     · rw[zu8]at h;exact SeqAt.EqAt.int_str i t y u _ _ _ _ h
   · rcases jg hv with⟨j,u,rfl,rfl⟩ | ⟨y,u,rfl,rfl⟩
     · rw[zu7]at h;exact SeqAt.EqAt.str_int x t j u _ _ _ _ h
     · rw[zu6]at h;exact wpAny_eqBool_str h
 «strs»:=fun k x t v h=>by
   rcases jg h with⟨i,u,rfl,e⟩ | ⟨y,u,rfl,e⟩
   · exact nomatch e
   · injection e with e1 _;subst e1;cases v<;>rfl
theorem zgw(prog:Program)(w:World)(i:Int)(t:Tok):(xb prog w).is (.inl i) (.int i t)=true:=zll i t
theorem zgv(prog:Program)(w:World)(x:Str)(t:Tok):(xb prog w).is (.inr x) (.str x t)=true:=zlk x t
inductive V where
 |non | bl (b:Bool) | int (i:Int) | str (x:Str) | byt (b:Array UInt8) | flt (b:UInt64) | ref (a:Addr) | ty (n:String)
 deriving DecidableEq
def RelV:V->Value->Prop
 | .non,u=>u=Value.none
 | .bl b,u=>u=Value.bool b
 | .int i,u=>∃t,u=Value.int i t
 | .str x,u=>∃t,u=Value.str x t
 | .byt b,u=>∃t,u=Value.bytes b t
 | .flt b,u=>∃t,u=Value.float b t
 | .ref a,u=>u=Value.ref a
 | .ty n,u=>u=Value.type n
abbrev Vals:List V->List Value->Prop:=Paired RelV
theorem Vals.length{xs:List V}{us:List Value}(r:Vals xs us):xs.length=us.length:=Paired.length r
theorem Vals.get:∀{xs:List V}{us:List Value}{i:Nat}{x:V},Vals xs us->xs[i]? = some x->∃u,us[i]? = some u/\RelV x u
 |_,_,_,_,.nil,e=>by simp at e
 |_,_,0,_,.cons r _,e=>by simp at e;subst e;exact⟨_,rfl,r⟩
 | _,_,i+1,x,.cons _ t,e=>by obtain⟨u,h1,h2⟩:=Vals.get (i:=i) (x:=x) t (by simpa using e);exact⟨u,by simpa using h1,h2⟩
theorem Vals.append:∀{xs ys:List V}{us ws:List Value},Vals xs us->Vals ys ws->Vals (xs++ys) (us++ws)
 |_,_,_,_,.nil,s=>s
 |_,_,_,_,.cons r t,s=>.cons r (Vals.append t s)
def RelO:Option V->Option Value->Prop
 |some v,some u=>RelV v u
 |none,none=>True
 |_,_=>False
def KV{κ:Type}:List (κ×V)->List (κ×Value)->Prop:=Paired fun(p:κ×V) (q:κ×Value)=>p.1=q.1/\RelV p.2 q.2
def kV:Key->V
 | .inl i=>.int i
 | .inr x=>.str x
inductive HO where
   |lst (xs:List V)
   |tup (xs:List V)
   |dK (kvs:List (Key×V)) | dT (kvs:List (List Key×V))
   |set (S:Int->Bool) (n:Nat)
   |ins (C dx:Addr) (fs:List (Str×V))
   |own (x:Addr)
   |xd (fs:List (Str×V))
   |met (f x:Addr)
   |rng (lo hi:Int)
   |frz (o:Obj) (u:HO)
   |tbl (ps:Array Value)
   |ext (φ:Heap->Prop)
abbrev Hp:=Addr->Option HO
def upd(H:Hp)(a:Addr)(o:HO):Hp:=fun b=>if b=a then some o else H b
theorem ql{H:Hp}{a:Addr}{o:HO}:upd H a o a=some o:=by unfold upd;rw[z1t rfl]
theorem qg{H:Hp}{a b:Addr}{o:HO}(h:b≠a):upd H a o b=H b:=by unfold upd;rw[z10 h]
theorem ne_of{H:Hp}{a b:Addr}{o u:HO}(h:H a=some o)(h':H b=some u)(d:o≠u):a≠b:=by intro e;subst e;rw[h]at h';exact d (z1s h')
theorem qy{H:Hp}{a b:Addr}{o:HO}(h:H a=some o)(h':H b=none):a≠b:=by intro e;subst e;rw[h]at h';cases h'
section
variable (P:Program) (w:World)
def ObjOk(H:Hp)(h:Heap)(a:Addr):HO->Prop
 | .lst xs=>xs.length<=sizeLine/\∃(its:List Value) (n:Nat),Vals xs its/\h.get? a=some { cls:=.type "list",data:=.seq its.toArray n }
 | .tup xs=>xs.length<=sizeLine/\∃its:List Value,Vals xs its/\IsTup h a its.toArray
 | .dK kvs=>kvs.length<=sizeLine/\(a==sysModules)=false/\∃vs,KV kvs vs/\h.DictOf (xb P w) a vs
 | .dT kvs=>kvs.length<=sizeLine/\(a==sysModules)=false/\∃xs:List (List Key×Addr×Value),
     Paired (fun(p:List Key×V) (q:List Key×Addr×Value)=>p.1=q.1/\H q.2.1=some (.tup (p.1.map kV))/\RelV p.2 q.2.2) kvs xs /\
     ∃o es ep,h.get? a=some o/\o.ExactDict/\o.data=.dict es ep/\es.toList=xs.map (entryOfKey (tupleKind (xb P w)))/\(xs.map (·.1)).Nodup
 | .set S n=>h.SetOf (intKind P w) a S n
 | .ins C dx fs=>H dx=some (.own a)/\fs.length<=1000/\dx≠a/\h.get? a=some (PySem.W.instObj C dx) /\
     ∃mA,h.Ns1 dx mA/\(∀f,RelO (fs.lookup f) (mA f))/\PySem.Within mA (fs.map (·.1))
 | .own _=>∃o,h.get? a=some o
 | .xd fs=>∃mA,h.Ns1 a mA/\∀f,RelO (fs.lookup f) (mA f)
 | .rng lo hi=>∃t u v,h.get? a=some { cls:=.type "range",data:=.fields #[.int lo t,.int hi u,.int 1 v] }
 | .frz o u=>h.get? a=some o/\ObjOk H h a u
 | .tbl ps=>h.get? a=some { cls:=.none,data:=.fields ps }
 | .met f x=>h.get? a=some (PySem.W.methodObj (.ref f) (.ref x))
 | .ext φ=>φ h/\(∃o,h.get? a=some o)/\∀h1 h2:Heap,φ h1->(∀o,h1.get? a=some o->h2.get? a=some o)->φ h2
def HOk(H:Hp)(h:Heap):Prop:=∀a o,H a=some o->ObjOk P w H h a o
end
section
variable {P:Program}{w:World}{H H':Hp}{h h':Heap}{a:Addr}{o:HO}
theorem ObjOk.lt(x:ObjOk P w H h a o):a<h.objs.size:=by
 cases o with
 |lst xs=>obtain⟨_,_,_,_,e⟩:=x;exact z1l e
 |tup xs=>obtain⟨_,_,_,p⟩:=x;exact p.lt
 |dK kvs=>obtain⟨_,_,_,_,o,_,_,e,_⟩:=x;exact z1l e
 |dT kvs=>obtain⟨_,_,_,_,o,_,_,e,_⟩:=x;exact z1l e
 |set S n=>obtain⟨o,_,_,_,e,_⟩:=x;exact z1l e
 |ins C dx fs=>obtain⟨_,_,_,e,_⟩:=x;exact z1l e
 |own y=>obtain⟨_,e⟩:=x;exact z1l e
 |xd fs=>obtain⟨_,⟨_,_,_,e,_⟩,_⟩:=x;exact z1l e
 |rng lo hi=>obtain⟨_,_,_,e⟩:=x;exact z1l e
 |frz ob u=>obtain⟨e,_⟩:=x;exact z1l e
 |tbl ps=>exact z1l (show h.get? a=some _ from x)
 |met f y=>exact z1l (show h.get? a=some _ from x)
 |ext φ=>obtain⟨_,⟨_,e⟩,_⟩:=x;exact z1l e
theorem Paired.mapP{α β:Type}{F G:α->β->Prop}:∀{l₁:List α}{l₂:List β},Paired F l₁ l₂->(∀a b,F a b->G a b)->Paired G l₁ l₂
 |_,_,.nil,_=>.nil
 |_,_,.cons r t,f=>.cons (f _ _ r) (Paired.mapP t f)
theorem ObjOk.stay(x:ObjOk P w H h a o)(k:∀b u,(b=a\/H b=some (.own a))->h.get? b=some u->h'.get? b=some u)
   (ho:∀b,H b=some (.own a)->H' b=some (.own a)) (ht:∀b xs,H b=some (.tup xs)->H' b=some (.tup xs)):ObjOk P w H' h' a o:=by
 induction o with
 |lst xs=>obtain⟨z,its,n,r,e⟩:=x;exact⟨z,its,n,r,k _ _ (.inl rfl) e⟩
 |tup xs=>obtain⟨z,its,r,ob,e,c⟩:=x;exact⟨z,its,r,ob,k _ _ (.inl rfl) e,c⟩
 |dK kvs=>obtain⟨z,y,vs,r,ob,es,ep,e,c⟩:=x;exact⟨z,y,vs,r,ob,es,ep,k _ _ (.inl rfl) e,c⟩
 | dT kvs=>
   obtain⟨z,y,xs,r,ob,es,ep,e,c⟩:=x;exact⟨z,y,xs,Paired.mapP r fun p q z=>⟨z.1,ht _ _ z.2.1,z.2.2⟩,ob,es,ep,k _ _ (.inl rfl) e,c⟩
 |set S n=>obtain⟨ob,es,ep,t,e,c⟩:=x;exact⟨ob,es,ep,t,k _ _ (.inl rfl) e,c⟩
 | ins C dx fs=>
   obtain⟨d,z,ne,e,mA,⟨od,es,ep,e2,c⟩,r⟩:=x;exact⟨ho _ d,z,ne,k _ _ (.inl rfl) e,mA,⟨od,es,ep,k _ _ (.inr d) e2,c⟩,r⟩
 |own y=>obtain⟨ob,e⟩:=x;exact⟨ob,k _ _ (.inl rfl) e⟩
 |xd fs=>obtain⟨mA,⟨od,es,ep,e,c⟩,r⟩:=x;exact⟨mA,⟨od,es,ep,k _ _ (.inl rfl) e,c⟩,r⟩
 |rng lo hi=>obtain⟨t,u,v,e⟩:=x;exact⟨t,u,v,k _ _ (.inl rfl) e⟩
 |frz ob u ih=>obtain⟨e,q⟩:=x;exact⟨k _ _ (.inl rfl) e,ih q⟩
 | tbl ps=>
   have e:h.get? a=some { cls:=.none,data:=.fields ps }:=x;show h'.get? a=some { cls:=.none,data:=.fields ps };exact k a _ (.inl rfl) e
 | met f y=>
   have e:h.get? a=some (PySem.W.methodObj (.ref f) (.ref y)):=x;show h'.get? a=some (PySem.W.methodObj (.ref f) (.ref y));exact k a _ (.inl rfl) e
 |ext φ=>obtain⟨p,⟨o,e⟩,st⟩:=x;exact⟨st _ _ p fun o q=>k _ _ (.inl rfl) q,⟨o,k _ _ (.inl rfl) e⟩,st⟩
theorem HOk.lt(x:HOk P w H h)(e:H a=some o):a<h.objs.size:=(x a o e).lt
theorem HOk.fresh(x:HOk P w H h)(e:h.objs.size<=a):H a=none:=by
 cases q:H a with
 |none=>rfl
 |some u=>exact absurd (z1d (x.lt q) e) (z20 _)
theorem HOk.kept(x:HOk P w H h)(k:∀b u,h.get? b=some u->h'.get? b=some u):HOk P w H h':=fun a o e=>
 (x a o e).stay (fun b u _ q=>k b u q) (fun _ q=>q) fun _ _ q=>q
theorem HOk.laid(x:HOk P w H h)(k:∀b u,h.get? b=some u->h'.get? b=some u)(hp:h.objs.size<=a)(new:ObjOk P w (upd H a o) h' a o):HOk P w (upd H a o) h':=fun b u e=>by
 have hn:=x.fresh hp;by_cases hb:b=a
 · subst hb;rw[ql]at e;cases e;exact new
 · rw[qg hb]at e;exact(x b u e).stay (fun c v _ q=>k c v q) (fun c q=>by rw[qg (qy q hn)];exact q) fun c xs q=>by rw[qg (qy q hn)];exact q
end
def Rd(H:Hp)(a:Addr)(u:HO):Prop:=H a=some u\/∃o,H a=some (.frz o u)
theorem Rd.ok{P:Program}{w:World}{H:Hp}{h:Heap}{a:Addr}{u:HO}(r:Rd H a u)(x:HOk P w H h):ObjOk P w H h a u:=by
 rcases r with r | ⟨o,r⟩
 · exact x a u r
 · obtain⟨_,q⟩:=x a _ r;exact q
def Mut:Option HO->Prop
 |some (.lst _)=>True
 |some (.dK _)=>True
 |some (.dT _)=>True
 |some (.set _ _)=>True
 |some (.ins _ _ _)=>True
 |some (.ext _)=>True
 |_=>False
section
variable {P:Program}{w:World}{H:Hp}{h h':Heap}{x e:Addr}{o':HO}
theorem HOk.write(ok:HOk P w H h)(mu:Mut (H x))(he:e=x\/H e=some (.own x))(k:∀b u,b≠e->h.get? b=some u->h'.get? b=some u)(heo:∃u,h'.get? e=some u)
   (new:ObjOk P w (upd H x o') h' x o'):HOk P w (upd H x o') h':=fun b u q=>by
 have nown:∀c y,H c=some (.own y)->c≠x:=fun c y r z=>by subst z;rw[r]at mu;exact mu
 have ntup:∀c xs,H c=some (.tup xs)->c≠x:=fun c xs r z=>by subst z;rw[r]at mu;exact mu
 by_cases hb:b=x
 · subst hb;rw[ql]at q;cases q;exact new
 · rw[qg hb]at q;by_cases hbe:b=e
   · have q':H b=some (.own x):=by
       rcases he with z | z
       · exact absurd (hbe.trans z) hb
       · rw[hbe];exact z
     rw[q]at q';cases q';obtain⟨v,hv⟩:=heo;exact⟨v,by rw[hbe];exact hv⟩
   · refine(ok b u q).stay (fun c v hc r=>k c v ?_ r) (fun c r=>by rw[qg (nown c b r)];exact r) fun c xs r=>by rw[qg (ntup c xs r)];exact r
     rcases hc with rfl | hc
     · exact hbe
     · rintro rfl;rcases he with z | z
       · exact nown c b hc z
       · rw[hc]at z;cases z;exact hb rfl
end
structure Un (fs ex:List Addr) (H H':Hp) (h h':Heap):Prop where
 keep:∀b o,h.get? b=some o->H b=none->b∉fs->b∉ex->h'.get? b=some o
 slot:∀b o,h.get? b=some o->H b=none->b∈fs->b∉ex->∃sl,h'.get? b=some { o with slots:=sl }
 free:∀b o,h.get? b=some o->H b=none->b∉ex->H' b=none
 there:∀b o,h.get? b=some o->b∉ex->∃o',h'.get? b=some o'
 tups:∀b xs,H b=some (.tup xs)->H' b=some (.tup xs)
 frzs:∀b o u,H b=some (.frz o u)->H' b=some (.frz o u)
 tbls:∀b ps,H b=some (.tbl ps)->∃more,H' b=some (.tbl (ps++more))
section
variable {fs fs' ex ex':List Addr}{H H1 H2:Hp}{h h1 h2 h':Heap}{a x e:Addr}{o:HO}
theorem Un.any(u:Un fs ex H H1 h h1){b:Addr}{ob:Obj}(q:h.get? b=some ob)(n:H b=none)(hx:b∉ex):∃sl,h1.get? b=some { ob with slots:=sl }:=by
 by_cases hb:b∈fs
 · exact u.slot b ob q n hb hx
 · exact⟨ob.slots,u.keep b ob q n hb hx⟩
theorem Un.kept(k:∀b u,h.get? b=some u->h'.get? b=some u):Un fs ex H H h h' :=
 ⟨fun b ob q _ _ _=>k b ob q,fun b ob q _ _ _=>⟨ob.slots,k b ob q⟩,fun _ _ _ n _=>n,fun b ob q _=>⟨ob,k b ob q⟩,fun _ _ q=>q,fun _ _ _ q=>q,fun _ ps q=>⟨#[],by rw[q];simp⟩⟩
theorem Un.refl:Un fs ex H H h h:=Un.kept fun _ _ q=>q
theorem Un.laid(k:∀b u,h.get? b=some u->h'.get? b=some u)(hp:h.objs.size<=a)(hn:H a=none):Un fs ex H (upd H a o) h h' where
 keep:=fun b u q _ _ _=>k b u q
 slot:=fun b u q _ _ _=>⟨u.slots,k b u q⟩
 free:=fun b u q n _=>by rw[qg (z1o (z1d (z1l q) hp))];exact n
 there:=fun b u q _=>⟨u,k b u q⟩
 tups:=fun b xs q=>by rw[qg (qy q hn)];exact q
 frzs:=fun b u xs q=>by rw[qg (qy q hn)];exact q
 tbls:=fun b ps q=>⟨#[],by rw[qg (qy q hn),q];simp⟩
theorem Un.write(mu:Mut (H x))(he:e=x\/H e=some (.own x))(k:∀b u,b≠e->h.get? b=some u->h'.get? b=some u)(heo:∃u,h'.get? e=some u):Un fs ex H (upd H x o) h h':=by
 have hx:∀b,H b=none->b≠x:=fun b n z=>by subst z;rw[n]at mu;exact mu
 have hb:∀b,H b=none->b≠e:=fun b n z=>by
   subst z;rcases he with r | r
   · exact hx b n r
   · rw[n]at r;cases r
 have hm:∀b u,H b=some u->¬ Mut (some u)->b≠x:=fun b u q nm z=>by subst z;rw[q]at mu;exact nm mu
 refine⟨fun b u q n _ _=>k b u (hb b n) q,fun b u q n _ _=>⟨u.slots,k b u (hb b n) q⟩,fun b u q n _=>by rw[qg (hx b n)];exact n,fun b u q _=>?_,
   fun b xs q=>by rw[qg (hm b _ q fun z=>z)];exact q,fun b u xs q=>by rw[qg (hm b _ q fun z=>z)];exact q,fun b ps q=>⟨#[],by rw[qg (hm b _ q fun z=>z),q];simp⟩⟩
 by_cases hbe:b=e
 · subst hbe;exact heo
 · exact⟨u,k b u hbe q⟩
end
def trk(h:Heap)(H:Hp):List Addr:=(List.range h.objs.size).filter fun a=>(H a).isSome
def znw(h:Heap)(H:Hp):Heap:=PySem.W.hideAll h (trk h H)
theorem zls(h:Heap)(H:Hp):(znw h H).objs.size=h.objs.size:=PySem.W.hideAll_size _ _
theorem zd9{h:Heap}{H:Hp}{b:Addr}{o:Obj}(e:h.get? b=some o)(n:H b=none):(znw h H).get? b=some o :=
 PySem.W.hideAll_get _ e fun hm=>by have q:(H b).isSome=true:=(z3h.mp hm).2;rw[n]at q;simp at q
theorem zrg{h:Heap}{H:Hp}{b:Addr}{o:Obj}(e:(znw h H).get? b=some o):h.get? b=some o/\H b=none:=by
 have e':h.get? b=some o:=PySem.W.of_hideAll (trk h H) e;refine⟨e',?_⟩;cases q:H b with
 |none=>rfl
 | some x=>
   have hm:b∈trk h H:=z3h.mpr ⟨z23.mpr (z1l e'),by simp[q]⟩;have z:(znw h H).get? b=none:=PySem.W.hideAll_none (trk h H) hm;rw[z]at e;cases e
def zss(g h:Heap)(L:Addr):zAO:=(List.range h.objs.size).filterMap fun a=>if a=L\/(g.get? a).isSome=true then none else (h.get? a).map fun o=>(a,o)
def rest(g h:Heap)(L d:Addr):zAO:=(zss g h L).filter fun p=>decide (p.1≠d)
structure Mod (K:zFr) (mg:zMg) (base:Heap):Prop where
 kin:K.In base
 glob:base.Ns mainGlobals mg
 blt:∃mb,base.Ns builtinsNs mb/\∀x:Str,x≠"__name__"->mb x=bootBuiltins x
 nolimit:base.NoLimit
structure Cx where
 prog:Program
 w:World
 K:zFr
 mg:zMg
 base:Heap
 A:Around
 N:List Str
 s₀:Shared
 H₀:Hp
 env:Env
 outer:List Env
 stack:List Env
 ex:List Addr
 fn:Str->Bool
 calm:Bool
 pn:zAO
 xe:zVP
def frs(l:List Env):List Addr:=l.filterMap (·.frame)
abbrev Cx.fs(X:Cx):List Addr:=frs X.outer
def Vis(sc:Scope)(x:Str):Prop:=sc.names.lookup x=some .local\/sc.names.lookup x=some .cell\/sc.names.lookup x=some .free
def Loc(sc:Scope)(x:Str):Prop:=sc.names.lookup x=some .local\/sc.names.lookup x=some .cell
def z00(env:Env)(h:Heap)(m:zMg)(x:Str)(u:Value):Prop :=
 (env.kindOf x=some .local/\m x=some u)\/((env.kindOf x=some .cell\/env.kindOf x=some .free)/\∃c,env.cells.lookup x=some c/\h.IsCell c (some u))
structure Cx.Ok (X:Cx):Prop where
 mod:Mod X.K X.mg X.base
 kind:X.env.scope.kind=.function
 glob:X.env.globals=mainGlobals
 blt:X.env.builtins=builtinsNs
 above:X.s₀.heap.objs.size<=X.env.locals
 inj:∀x y c,X.env.cells.lookup x=some c->X.env.cells.lookup y=some c->x=y
 has:∀x,(X.env.kindOf x=some .cell\/X.env.kindOf x=some .free)->∃c,X.env.cells.lookup x=some c
 cab:∀x c,X.fn x=true->X.env.cells.lookup x=some c->X.s₀.heap.objs.size<=c
 hd:X.calm=true->X.A.handled=none
 frames:X.A.frames=some X.stack
 stk:X.stack=X.outer\/(X.stack=X.env::X.outer/\X.env.frame=some X.env.locals)
 exf:∀b∈X.ex,b≠X.env.locals/\∀x c,X.env.cells.lookup x=some c->c≠b
 bs:∀b o,X.base.get? b=some o->X.s₀.heap.get? b=some o/\X.H₀ b=none
 bsz:X.base.objs.size<=X.s₀.heap.objs.size
 noex:∀b o,X.base.get? b=some o->b∉X.ex
 exfs:∀b∈X.ex,b∉X.fs
 funs:X.s₀.heap.FunFrames X.base X.outer
 frf:∀b∈X.fs,X.H₀ b=none
structure Inv (X:Cx) (pins:zAO) (σ:List (Option V)) (H:Hp) (s:Shared):Prop where
 ok:X.Ok
 os:s.os=X.s₀.os
 bare:AllBare s.gens
 base:Un X.fs X.ex X.H₀ H X.s₀.heap s.heap
 loc:∃m,s.heap.Ns X.env.locals m/\∀(i:Nat) (x:Str) (v:V),X.N[i]? = some x->σ[i]? = some (some v)->Vis X.env.scope x->∃u,RelV v u/\z00 X.env s.heap m x u
 cell:∀x c,X.env.cells.lookup x=some c->∃v,s.heap.IsCell c v
 free:H X.env.locals=none
 freeC:∀x c,X.env.cells.lookup x=some c->H c=none
 pin:∀p∈X.pn++pins,s.heap.get? p.1=some p.2/\H p.1=none/\p.1≠X.env.locals/\p.1∉X.fs/\∀v,p.2.data≠.cell v
 hok:HOk X.prog X.w H s.heap
 len:σ.length=X.N.length
section
variable {X:Cx}{pins:zAO}{σ:List (Option V)}{H H':Hp}{s:Shared}{h':Heap}
theorem Cx.Ok.nofr(ok:X.Ok){b:Addr}{o:Obj}(e:X.base.get? b=some o):b∉X.fs:=fun hb=>by have:=(ok.funs.mem hb).1;rw[e]at this;cases this
theorem Inv.bs(I:Inv X pins σ H s):∀b o,X.base.get? b=some o->s.heap.get? b=some o/\H b=none:=fun b o e=>
 ⟨I.base.keep b o (I.ok.bs b o e).1 (I.ok.bs b o e).2 (I.ok.nofr e) (I.ok.noex b o e),I.base.free b o (I.ok.bs b o e).1 (I.ok.bs b o e).2 (I.ok.noex b o e)⟩
theorem Inv.bk(I:Inv X pins σ H s):∀b o,X.base.get? b=some o->s.heap.get? b=some o:=fun b o e=>(I.bs b o e).1
theorem Inv.mod(I:Inv X pins σ H s):Mod X.K X.mg X.base:=I.ok.mod
theorem Inv.kIn(I:Inv X pins σ H s):X.K.In s.heap:=I.ok.mod.kin.keeps I.bk
theorem Inv.lt(I:Inv X pins σ H s):X.env.locals<s.heap.objs.size:=let⟨_,hn,_⟩:=I.loc;hn.lt
theorem Inv.sz(I:Inv X pins σ H s):X.s₀.heap.objs.size<=s.heap.objs.size:=z1u I.ok.above (z2y I.lt)
theorem Inv.nofs(I:Inv X pins σ H s){a:Addr}(h:s.heap.objs.size<=a):a∉X.fs:=fun hb=>by obtain⟨_,o,ho,_⟩:=I.ok.funs.mem hb;exact absurd (z1d (z1l ho) (z1u I.sz h)) (z20 _)
theorem Inv.cne(I:Inv X pins σ H s):∀x c,X.env.cells.lookup x=some c->c≠X.env.locals:=fun x c e z=>by obtain⟨v,o,ho,hd⟩:=I.cell x c e;obtain⟨m,⟨o',es,ep,ho',hd',_⟩,_⟩:=I.loc;rw[z,ho']at ho;cases ho;rw[hd']at hd;cases hd
theorem Inv.funs(I:Inv X pins σ H s):s.heap.FunFrames X.base X.outer:=by
 have all:∀(l:List Env),(∀b∈frs l,b∈X.fs)->X.s₀.heap.FunFrames X.base l->s.heap.FunFrames X.base l:=by
   intro l
   induction l with
   |nil=>intro _ _;trivial
   | cons env r ih=>
     intro hs hl;obtain⟨hk,⟨L,o,hf,hn,ho,hd⟩,hr⟩:=hl;have hL:L∈X.fs:=hs L (by unfold frs;rw[List.filterMap_cons,hf];exact z1j);obtain⟨sl,e⟩:=I.base.slot L o ho (I.ok.frf L hL) hL fun z=>I.ok.exfs L z hL;exact⟨hk,⟨L,_,hf,hn,e,hd⟩,ih (fun b hb=>hs b (by unfold frs;rw[List.filterMap_cons,hf];exact z09 _ hb)) hr⟩
 exact all X.outer (fun _ hb=>hb) I.ok.funs
theorem Inv.stack(I:Inv X pins σ H s):s.heap.FunFrames X.base X.stack:=by
 rcases I.ok.stk with e | ⟨e,hf⟩
 · rw[e];exact I.funs
 · rw[e];obtain⟨m,hn,_⟩:=I.loc;refine .cons (by rw[I.ok.kind];decide) hf hn ?_ I.funs;exact Heap.get?_none_of_le (z1u I.ok.bsz I.ok.above)
theorem Inv.stkSub(I:Inv X pins σ H s):∀b∈frs X.stack,b∈X.env.locals::X.fs:=fun b hb=>by
 rcases I.ok.stk with e | ⟨e,hf⟩
 · rw[e]at hb;exact z09 _ hb
 · rw[e]at hb;unfold frs at hb;rw[List.filterMap_cons,hf]at hb;exact hb
theorem Inv.stkFree(I:Inv X pins σ H s):∀b∈frs X.stack,H b=none:=fun b hb=>by
 rcases z1e.mp (I.stkSub b hb)with e | hb
 · rw[e];exact I.free
 · obtain⟨_,o,ho,_⟩:=I.ok.funs.mem hb;exact I.base.free b o ho (I.ok.frf b hb) fun z=>I.ok.exfs b z hb
theorem Inv.step{g':Array GenState}{t':Nat}{d':Drawn}{ch:List Addr}(I:Inv X pins σ H s)
   (hch:∀b∈ch,(b∈X.ex\/X.s₀.heap.objs.size<=b)/\b≠X.env.locals/\(∀x c,X.env.cells.lookup x=some c->c≠b)/\∀p∈X.pn++pins,p.1≠b)
   (keep:∀b o,b≠X.env.locals->b∉X.fs->b∉ch->s.heap.get? b=some o->H b=none->h'.get? b=some o)
   (slot:∀b o,b≠X.env.locals->b∈X.fs->b∉ch->s.heap.get? b=some o->H b=none->∃sl,h'.get? b=some { o with slots:=sl }) (free:∀b o,b∉ch->s.heap.get? b=some o->H b=none->H' b=none)
   (there:∀b o,b∉ch->s.heap.get? b=some o->∃o',h'.get? b=some o')
   (tups:∀b xs,H b=some (.tup xs)->H' b=some (.tup xs)) (frzs:∀b o u,H b=some (.frz o u)->H' b=some (.frz o u)) (tbls:∀b ps,H b=some (.tbl ps)->∃more,H' b=some (.tbl (ps++more)))
   (ns:∀m,s.heap.Ns X.env.locals m->h'.Ns X.env.locals m) (hok:HOk X.prog X.w H' h') (hg:AllBare g') :
   Inv X pins σ H' { s with heap:=h',gens:=g',drawn:=d',toks:=t' }:=by
 have neL:∀b o,X.s₀.heap.get? b=some o->b≠X.env.locals:=fun b o e=>z1o (z1d (z1l e) I.ok.above);have neC:∀b o,X.s₀.heap.get? b=some o->b∉X.ex->b∉ch:=fun b o e hx hb=>by
   rcases(hch b hb).1 with z | z
   · exact hx z
   · exact absurd (z1d (z1l e) z) (z20 _)
 have cellK:∀x c,X.env.cells.lookup x=some c->∀v,s.heap.IsCell c v->h'.IsCell c v:=fun x c e v ⟨o,ho,hd⟩=>by
   have nch:c∉ch:=fun z=>(hch c z).2.2.1 x c e rfl;by_cases hc:c∈X.fs
   · obtain⟨sl,q⟩:=slot c o (I.cne x c e) hc nch ho (I.freeC x c e);exact⟨_,q,hd⟩
   · exact⟨o,keep c o (I.cne x c e) hc nch ho (I.freeC x c e),hd⟩
 refine⟨I.ok,I.os,hg,⟨fun b o e n hb hx=>?_,fun b o e n hb hx=>?_,fun b o e n hx=>?_,fun b o e hx=>?_,fun b xs e=>tups b xs (I.base.tups b xs e),fun b o xs e=>frzs b o xs (I.base.frzs b o xs e),fun b ps e=>?_⟩,?_,fun x c e=>?_,?_,fun x c e=>?_,fun p hp=>?_,hok,I.len⟩
 · exact keep b o (neL b o e) hb (neC b o e hx) (I.base.keep b o e n hb hx) (I.base.free b o e n hx)
 · obtain⟨sl,e1⟩:=I.base.slot b o e n hb hx;obtain⟨sl',e2⟩:=slot b _ (neL b o e) hb (neC b o e hx) e1 (I.base.free b o e n hx);exact⟨sl',e2⟩
 · obtain⟨o',e1⟩:=I.base.there b o e hx;exact free b o' (neC b o e hx) e1 (I.base.free b o e n hx)
 · obtain⟨o',e1⟩:=I.base.there b o e hx;exact there b o' (neC b o e hx) e1
 · obtain⟨m1,e1⟩:=I.base.tbls b ps e;obtain⟨m2,e2⟩:=tbls b _ e1;exact⟨m1++m2,by rw[e2,Array.append_assoc]⟩
 · obtain⟨m,hn,hl⟩:=I.loc;refine⟨m,ns m hn,fun i x v e1 e2 e3=>?_⟩;obtain⟨u,r,l⟩:=hl i x v e1 e2 e3;refine⟨u,r,?_⟩;rcases l with l | ⟨k,c,e,z⟩
   · exact .inl l
   · exact .inr ⟨k,c,e,cellK x c e _ z⟩
 · obtain⟨v,z⟩:=I.cell x c e;exact⟨v,cellK x c e v z⟩
 · obtain⟨m,⟨o,_,_,ho,_⟩,_⟩:=I.loc;exact free _ o (fun z=>(hch _ z).2.1 rfl) ho I.free
 · obtain⟨v,o,ho,hd⟩:=I.cell x c e;exact free c o (fun z=>(hch c z).2.2.1 x c e rfl) ho (I.freeC x c e)
 · obtain⟨e,n,ne,nf,d⟩:=I.pin p hp;have nch:p.1∉ch:=fun z=>(hch p.1 z).2.2.2 p hp rfl;exact⟨keep p.1 p.2 ne nf nch e n,free p.1 p.2 nch e n,ne,nf,d⟩
theorem Inv.un{t':Nat}(I:Inv X pins σ H s)(u:Un X.fs [] H H' s.heap h')(hok:HOk X.prog X.w H' h'):Inv X pins σ H' { s with heap:=h',toks:=t' }:=by
 obtain⟨m,⟨o,es,ep,ho,r⟩,_⟩:=id I.loc;obtain⟨sl,hL⟩:=u.any ho I.free (by simp);exact I.step (g':=s.gens) (d':=s.drawn) (ch:=[]) (fun _ z=>nomatch z) (fun b o _ hb _ e n=>u.keep b o e n hb (by simp)) (fun b o _ hb _ e n=>u.slot b o e n hb (by simp)) (fun b o _ e n=>u.free b o e n (by simp)) (fun b o _ e=>u.there b o e (by simp)) u.tups u.frzs u.tbls (fun m' hm=>by
   obtain⟨o',es',ep',ho',r'⟩:=hm;rw[ho]at ho';cases ho';exact⟨_,es',ep',hL,r'⟩) hok I.bare
theorem Inv.call{g':Array GenState}{t':Nat}{d':Drawn}{ch:List Addr}(I:Inv X pins σ H s)(u:Un (frs X.stack) ch H H' s.heap h')(hok:HOk X.prog X.w H' h')(hg:AllBare g')
   (hch:∀b∈ch,(b∈X.ex\/X.s₀.heap.objs.size<=b)/\b≠X.env.locals/\(∀x c,X.env.cells.lookup x=some c->c≠b)/\∀p∈X.pn++pins,p.1≠b) :
   Inv X pins σ H' { s with heap:=h',gens:=g',drawn:=d',toks:=t' }:=by
 obtain⟨m,⟨o,es,ep,ho,r⟩,_⟩:=id I.loc;obtain⟨sl,hL⟩:=u.any ho I.free fun z=>(hch _ z).2.1 rfl;exact I.step (ch:=ch) hch (fun b o hL hb hc e n=>u.keep b o e n (fun z=>(z1e.mp (I.stkSub b z)).elim hL hb) hc) (fun b o _ _ hc e n=>u.any e n hc) (fun b o hc e n=>u.free b o e n hc) (fun b o hc e=>u.there b o e hc) u.tups u.frzs u.tbls (fun m' hm=>by
   obtain⟨o',es',ep',ho',r'⟩:=hm;rw[ho]at ho';cases ho';exact⟨_,es',ep',hL,r'⟩) hok hg
theorem Inv.turned{t':Nat}{it:Addr}(I:Inv X pins σ H s)(k:∀b o,b≠it->s.heap.get? b=some o->h'.get? b=some o)(hn:H it=none)(hL:it≠X.env.locals)
   (h1:it∈X.ex\/X.s₀.heap.objs.size<=it) (h2:∀x c,X.env.cells.lookup x=some c->c≠it) (h3:∀p∈X.pn++pins,p.1≠it):Inv X pins σ H { s with heap:=h',toks:=t' }:=by
 have nit:∀b u,H b=some u->b≠it:=fun b u e z=>by rw[z,hn]at e;cases e
 refine I.step (g':=s.gens) (d':=s.drawn) (ch:=[it]) (fun b hb=>?_) (fun b o _ _ hc e _=>k b o (fun z=>hc (by simp[z])) e) (fun b o _ _ hc e _=>⟨o.slots,k b o (fun z=>hc (by simp[z])) e⟩) (fun _ _ _ _ n=>n)
   (fun b o hc e=>⟨o,k b o (fun z=>hc (by simp[z])) e⟩) (fun _ _ e=>e) (fun _ _ _ e=>e) (fun b ps e=>⟨#[],by rw[e];simp⟩) (fun m hm=>?_) (fun b u e=>?_) I.bare
 · have e:b=it:=by simpa using hb
   subst e;exact⟨h1,hL,h2,h3⟩
 · obtain⟨o,es,ep,ho,r⟩:=hm;exact⟨o,es,ep,k _ o (z3v hL) ho,r⟩
 · refine(I.hok b u e).stay (fun c v hc q=>k c v ?_ q) (fun _ q=>q) fun _ _ q=>q;rcases hc with z | z
   · rw[z];exact nit b u e
   · exact nit c _ z
theorem Inv.tok(I:Inv X pins σ H s)(t:Nat):Inv X pins σ H { s with toks:=t }:=I.un (h':=s.heap) (t':=t) Un.refl I.hok
theorem Inv.kept{t':Nat}(I:Inv X pins σ H s)(k:∀b u,s.heap.get? b=some u->h'.get? b=some u):Inv X pins σ H { s with heap:=h',toks:=t' }:=I.un (Un.kept k) (I.hok.kept k)
theorem Inv.laid{a:Addr}{o:HO}{t':Nat}(I:Inv X pins σ H s)(k:∀b u,s.heap.get? b=some u->h'.get? b=some u)(hp:s.heap.objs.size<=a)(new:ObjOk X.prog X.w (upd H a o) h' a o) :
   Inv X pins σ (upd H a o) { s with heap:=h',toks:=t' }:=I.un (Un.laid k hp (I.hok.fresh hp)) (I.hok.laid k hp new)
theorem Inv.write{x e:Addr}{o:HO}{t':Nat}(I:Inv X pins σ H s)(mu:Mut (H x))(he:e=x\/H e=some (.own x))(k:∀b u,b≠e->s.heap.get? b=some u->h'.get? b=some u)(heo:∃u,h'.get? e=some u)
   (new:ObjOk X.prog X.w (upd H x o) h' x o):Inv X pins σ (upd H x o) { s with heap:=h',toks:=t' }:=I.un (Un.write mu he k heo) (I.hok.write mu he k heo new)
theorem Inv.pins_of{pins':zAO}(I:Inv X pins σ H s)(h:∀p∈pins',s.heap.get? p.1=some p.2/\H p.1=none/\p.1≠X.env.locals/\p.1∉X.fs/\∀v,p.2.data≠.cell v):Inv X pins' σ H s :=
 ⟨I.ok,I.os,I.bare,I.base,I.loc,I.cell,I.free,I.freeC,fun p hp=>(z1p.mp hp).elim (fun z=>I.pin p (z2n _ z)) (h p),I.hok,I.len⟩
theorem zib{N:List Str}(hN:N.Nodup){i j:Nat}{x:Str}(a:N[i]? = some x)(b:N[j]? = some x):i=j:=by obtain⟨h1,e1⟩:=z06.mp a;obtain⟨h2,e2⟩:=z06.mp b;exact(z4a hN).mp (e1.trans e2.symm)
theorem zj7{M:Model}{A:Around}{E:zVP}{i:Nat}{x:Str}{v:V}{u:Value}{Q:Unit->Shared->Prop}(I:Inv X pins σ H s)(hN:X.N.Nodup)(hi:X.N[i]? = some x)(hx:Loc X.env.scope x)(r:RelV v u)
   (h:∀s',Inv X pins (σ.set i (some v)) H s'->(∃a,Heap.SameBut a s.heap s'.heap/\(a=X.env.locals\/X.env.cells.lookup x=some a))->Q () s') (hf:X.fn x=true\/X.env.scope.names.lookup x=some .local:=by first | exact .inl rfl | exact .inr rfl | assumption):wpAny M A (storeName X.env x u) Q E s:=by
 obtain⟨m,hn,hl⟩:=id I.loc;have hcls:(X.env.scope.kind==.class||(X.env.scope.kind==.module&&X.env.locals != X.env.globals))=false:=by rw[I.ok.kind];rfl
 have hiσ:i<σ.length:=by rw[I.len];exact(z06.mp hi).1
 have cne:=I.cne;have tracked:∀{a:Addr}{h':Heap},(∃o,s.heap.get? a=some o/\H a=none)->Heap.SameBut a s.heap h'->HOk X.prog X.w H h':=fun {a h'} ha hs b ob e=>by
   obtain⟨_,_,hfree⟩:=ha;refine(I.hok b ob e).stay (fun c w' hc q=>(hs.2 c ?_).trans q) (fun _ q=>q) fun _ _ q=>q;rintro rfl;rcases hc with rfl | hc
   · rw[hfree]at e;cases e
   · rw[hfree]at hc;cases hc
 rcases hx with hk | hk
 · refine wpAny_storeName_local hk hn (fun h' hn' hs=>?_) hcls;obtain⟨oL,_,_,hoL,_⟩:=id hn;refine h _ ⟨I.ok,I.os,I.bare,⟨fun b o e n hb hx=>?_,fun b o e n hb hx=>?_,I.base.free,fun b o e hx=>?_,I.base.tups,I.base.frzs,I.base.tbls⟩,⟨_,hn',fun j y v' e1 e2 e3=>?_⟩,fun y c e=>?_,I.free,I.freeC,fun p hp=>?_,tracked ⟨oL,hoL,I.free⟩ hs,by simpa using I.len⟩ ⟨_,hs,.inl rfl⟩
   · exact(hs.2 b (z1o (z1d (z1l e) I.ok.above))).trans (I.base.keep b o e n hb hx)
   · obtain⟨sl,e1⟩:=I.base.slot b o e n hb hx;exact⟨sl,(hs.2 b (z1o (z1d (z1l e) I.ok.above))).trans e1⟩
   · obtain⟨o',e1⟩:=I.base.there b o e hx;exact⟨o',(hs.2 b (z1o (z1d (z1l e) I.ok.above))).trans e1⟩
   · by_cases hj:j=i
     · subst hj;rw[hi]at e1;cases e1;rw[z17 hiσ]at e2;cases e2;exact⟨u,r,.inl ⟨hk,by simp⟩⟩
     · rw[z2o (z3v hj)]at e2;obtain⟨u',r',q⟩:=hl j y v' e1 e2 e3;refine⟨u',r',?_⟩;rcases q with⟨k,e⟩ | ⟨k,c,e,z⟩
       · refine .inl ⟨k,?_⟩;have:y≠x:=fun e=>hj (zib hN e1 (e▸hi));simp[this,e]
       · exact .inr ⟨k,c,e,z.sameBut hs (cne y c e)⟩
   · obtain⟨w',z⟩:=I.cell y c e;exact⟨w',z.sameBut hs (cne y c e)⟩
   · obtain⟨e,n,ne,nf,d⟩:=I.pin p hp;exact⟨(hs.2 p.1 ne).trans e,n,ne,nf,d⟩
 · have hfn:X.fn x=true:=by
     rcases hf with z | z
     · exact z
     · rw[z]at hk;cases hk
   obtain⟨c,hc⟩:=I.ok.has x (.inl hk);obtain⟨w',z⟩:=I.cell x c hc;refine wpAny_storeName_cell I.ok.kind hk hc z (fun h' hc' hs=>?_);obtain⟨oc,hoc,hocd⟩:=id z;refine h { s with heap:=h' } ⟨I.ok,I.os,I.bare,⟨fun b o e n hb hx=>?_,fun b o e n hb hx=>?_,I.base.free,fun b o e hx=>?_,I.base.tups,I.base.frzs,I.base.tbls⟩,⟨m,hn.sameBut hs (z3v (cne x c hc)),fun j y v' e1 e2 e3=>?_⟩,fun y c' e=>?_,I.free,I.freeC,fun p hp=>?_,tracked ⟨oc,hoc,I.freeC x c hc⟩ hs,by simpa using I.len⟩ ⟨c,hs,.inr hc⟩
   · exact(hs.2 b (z1o (z1d (z1l e) (I.ok.cab x c hfn hc)))).trans (I.base.keep b o e n hb hx)
   · obtain⟨sl,e1⟩:=I.base.slot b o e n hb hx;exact⟨sl,(hs.2 b (z1o (z1d (z1l e) (I.ok.cab x c hfn hc)))).trans e1⟩
   · obtain⟨o',e1⟩:=I.base.there b o e hx;exact⟨o',(hs.2 b (z1o (z1d (z1l e) (I.ok.cab x c hfn hc)))).trans e1⟩
   · by_cases hj:j=i
     · subst hj;rw[hi]at e1;cases e1;rw[z17 hiσ]at e2;cases e2;exact⟨u,r,.inr ⟨.inl hk,c,hc,hc'⟩⟩
     · rw[z2o (z3v hj)]at e2;obtain⟨u',r',q⟩:=hl j y v' e1 e2 e3;refine⟨u',r',?_⟩;rcases q with q | ⟨k,c',e,z'⟩
       · exact .inl q
       · refine .inr ⟨k,c',e,z'.sameBut hs ?_⟩;rintro rfl;exact hj (zib hN e1 (I.ok.inj _ _ _ e hc▸hi))
   · by_cases hcc:c'=c
     · subst hcc;exact⟨_,hc'⟩
     · obtain⟨w2,z2⟩:=I.cell y c' e;exact⟨w2,z2.sameBut hs hcc⟩
   · obtain⟨e,n,ne,nf,d⟩:=I.pin p hp;refine⟨(hs.2 p.1 ?_).trans e,n,ne,nf,d⟩;intro q;rw[q,hoc]at e;have q':oc=p.2:=z1s e;exact d w' (by rw[<-q'];exact hocd)
theorem zh1{M:Model}{A:Around}{E:zVP}{i:Nat}{x:Str}{v:V}{u:Value}{Q:Unit->Shared->Prop}(I:Inv X pins σ H s)(hN:X.N.Nodup)(hi:X.N[i]? = some x)(hx:Loc X.env.scope x)(r:RelV v u)
   (h:∀s',Inv X pins (σ.set i (some v)) H s'->Q () s') (hf:X.fn x=true\/X.env.scope.names.lookup x=some .local:=by first | exact .inl rfl | exact .inr rfl | assumption):wpAny M A (storeName X.env x u) Q E s :=
 zj7 I hN hi hx r (fun s' I' _=>h s' I') hf
theorem Inv.call'{s':Shared}{ch:List Addr}(I:Inv X pins σ H s)(ho:s'.os=s.os)(u:Un (frs X.stack) ch H H' s.heap s'.heap)(hok:HOk X.prog X.w H' s'.heap)(hg:AllBare s'.gens)
   (hch:∀b∈ch,(b∈X.ex\/X.s₀.heap.objs.size<=b)/\b≠X.env.locals/\(∀x c,X.env.cells.lookup x=some c->c≠b)/\∀p∈X.pn++pins,p.1≠b):Inv X pins σ H' s':=by
 obtain⟨h',g',d',t',o'⟩:=s';have e:o'=s.os:=ho;subst e;exact I.call (g':=g') (t':=t') (d':=d') u hok hg hch
end
abbrev XK:=Value->Option Addr->Hp->Prop
abbrev St:=List (Option V)
abbrev VK:=V->Hp->Prop
abbrev TE:=St->Hp->VK->Prop
abbrev TT:=St->Hp->(Bool->Hp->Prop)->Prop
abbrev TA:=St->Hp->(List V->Hp->Prop)->Prop
structure Ends where
 nx:St->Hp->Prop
 rt:VK
 bk:St->Hp->Prop:=fun _ _=>False
 ct:St->Hp->Prop:=fun _ _=>False
abbrev TS:=Ends->St->Hp->Prop
def EP(X:Cx)(pins:zAO)(σ:St)(Q:VK)(u:Value)(s':Shared):Prop:=∃v H',Inv X pins σ H' s'/\RelV v u/\Q v H'
def TP(X:Cx)(pins:zAO)(σ:St)(Q:Bool->Hp->Prop)(b:Bool)(s':Shared):Prop:=∃H',Inv X pins σ H' s'/\Q b H'
def AP(X:Cx)(pins:zAO)(σ:St)(Q:List V->Hp->Prop)(us:List Value)(s':Shared):Prop:=∃vs H',Inv X pins σ H' s'/\Vals vs us/\Q vs H'
def SP(X:Cx)(pins:zAO)(D:Ends)(f:Flow)(s':Shared):Prop :=
 match f with
 | .next=>∃σ' H',Inv X pins σ' H' s'/\D.nx σ' H'
 | .brk=>∃σ' H',Inv X pins σ' H' s'/\D.bk σ' H'
 | .cont=>∃σ' H',Inv X pins σ' H' s'/\D.ct σ' H'
 | .ret u=>∃v σ' H',Inv X pins σ' H' s'/\RelV v u/\D.rt v H'
def PE(X:Cx)(e:Expr)(t:TE):Prop :=
 ∀(pins:zAO) (s:Shared) (σ:St) (H:Hp) (Q:VK),Inv X pins σ H s->t σ H Q->wpAny (model X.prog X.w) X.A (eval e X.env) (EP X pins σ Q) X.xe s
def PT(X:Cx)(e:Expr)(t:TT):Prop :=
 ∀(pins:zAO) (s:Shared) (σ:St) (H:Hp) (Q:Bool->Hp->Prop),Inv X pins σ H s->t σ H Q->wpAny (model X.prog X.w) X.A (isTrue e X.env (eval e X.env)) (TP X pins σ Q) X.xe s
def PW(X:Cx)(e:Expr)(t:TT):Prop :=
 ∀(whole:Sem Value) (pins:zAO) (s:Shared) (σ:St) (H:Hp) (Q:Bool->Hp->Prop),Inv X pins σ H s->t σ H Q->wpAny (model X.prog X.w) X.A (isTrue e X.env whole) (TP X pins σ Q) X.xe s
theorem PW.pt{X:Cx}{e:Expr}{t:TT}(h:PW X e t):PT X e t:=h _
def PA(X:Cx)(es:List Expr)(t:TA):Prop :=
 ∀(pos:Pos) (pins:zAO) (s:Shared) (σ:St) (H:Hp) (Q:List V->Hp->Prop),Inv X pins σ H s->t σ H Q->wpAny (model X.prog X.w) X.A (spliced (backTo pos (starEach es X.env))) (AP X pins σ Q) X.xe s
def PS(X:Cx)(st:Stmt)(t:TS):Prop :=
 ∀(pins:zAO) (s:Shared) (σ:St) (H:Hp) (D:Ends),Inv X pins σ H s->t D σ H->wpAny (model X.prog X.w) X.A (exec st X.env) (SP X pins D) X.xe s
def PSs(X:Cx)(st:List Stmt)(t:TS):Prop :=
 ∀(pins:zAO) (s:Shared) (σ:St) (H:Hp) (D:Ends),Inv X pins σ H s->t D σ H->wpAny (model X.prog X.w) X.A (execs st X.env) (SP X pins D) X.xe s
theorem thn{α:Type}{t:Sem α}{Q Q':α->Shared->Prop}{M:Model}{A:Around}{E:zVP}{s:Shared}(h:wpAny M A t Q E s)(hQ:∀a s,Q a s->Q' a s):wpAny M A t Q' E s:=z24 h hQ fun _ _ x=>x
section
variable {X:Cx}
def zz8(i:Nat):TE:=fun σ H Q=>∃v,σ[i]? = some (some v)/\Q v H
def tC(v:V):TE:=fun _ H Q=>Q v H
theorem zud{i:Nat}{x:Str}{pos:Pos}(hN:X.N[i]? = some x)(hv:Vis X.env.scope x)(hd:(x==("__debug__":Str))=false:=by decide)(hcd:(x==("__classdict__":Str))=false:=by decide):PE X (.Name x pos) (zz8 i):=by
 intro pins s σ H Q I h;obtain⟨v,e,h⟩:=h;obtain⟨m,hn,hl⟩:=I.loc;obtain⟨u,r,l⟩:=hl i x v hN e hv;have fin:EP X pins σ Q u s:=⟨v,H,I,r,h⟩
 rcases l with⟨hk,hm⟩ | ⟨hk,c,hc,hcell⟩
 · exact wpAny_Name (wpAny_loadName_local I.ok.kind hk hn hm fin) hd
 · rcases hk with hk | hk
   · exact wpAny_Name (wpAny_loadName_cell I.ok.kind hk hc hcell fin) hd
   · exact wpAny_Name (wpAny_loadName_free I.ok.kind hk hc hcell fin hcd) hd
theorem zuj{i j pos}:PE X (.Constant (.int i) j pos) (tC (.int i)):=fun _ _ _ H _ I h=>wpAny_Constant_int ⟨.int i,H,I.tok _,⟨_,rfl⟩,h⟩
theorem zx3{b j pos}:PE X (.Constant (.bool b) j pos) (tC (.bl b)):=fun _ _ _ H _ I h=>Constant_bool ⟨.bl b,H,I,rfl,h⟩
theorem zui{j pos}:PE X (.Constant .none j pos) (tC .non):=fun _ _ _ H _ I h=>Constant_none ⟨.non,H,I,rfl,h⟩
theorem zo9{x j pos}:PE X (.Constant (.str x) j pos) (tC (.str x)):=fun _ _ _ H _ I h=>Calls.Constant_str ⟨.str x,H,I.tok _,⟨_,rfl⟩,h⟩
def Gl(X:Cx)(x:Str):Prop:=X.env.kindOf x=some .globalImplicit
theorem zd4{E:zVP}{pins:zAO}{s:Shared}{σ:St}{H:Hp}{x:Str}{u:Value}{pos:Pos}{Q:zVP}(I:Inv X pins σ H s)(hg:Gl X x)(hm:X.mg x=some u)(h:Q u s)
   (hd:(x==("__debug__":Str))=false:=by decide):wpAny (model X.prog X.w) X.A (eval (.Name x pos) X.env) Q E s :=
 Calls.Name_function_global I.ok.kind hg (Calls.loadGlobal_global (by rw[I.ok.glob];exact I.mod.glob.keeps I.bk) hm h) hd
theorem zld{E:zVP}{pins:zAO}{s:Shared}{σ:St}{H:Hp}{x:Str}{u:Value}{pos:Pos}{Q:zVP}(I:Inv X pins σ H s)(hg:Gl X x)(hm:X.mg x=none)(hv:bootBuiltins x=some u)(h:Q u s)
   (hn:x≠"__name__":=by decide) (hd:(x==("__debug__":Str))=false:=by decide):wpAny (model X.prog X.w) X.A (eval (.Name x pos) X.env) Q E s:=by
 obtain⟨mb,h1,h2⟩:=I.mod.blt;exact Calls.Name_function_global I.ok.kind hg (Calls.loadGlobal_builtin (by rw[I.ok.glob];exact I.mod.glob.keeps I.bk) hm (by rw[I.ok.blt];exact h1.keeps I.bk) ((h2 x hn).trans hv) h) hd
theorem zkw{x:Str}{v:V}{u:Value}{pos:Pos}(hg:Gl X x)(hm:X.mg x=some u)(r:RelV v u)(hd:(x==("__debug__":Str))=false:=by decide):PE X (.Name x pos) (tC v) :=
 fun _ _ _ H _ I h=>zd4 I hg hm ⟨v,H,I,r,h⟩ hd
variable {a b:Expr}{ta tb:TE}{pos:Pos}
def tB(t:TE):TT:=fun σ H Q=>t σ H fun x H1=>∃c,x=.bl c/\Q c H1
theorem zt4{e:Expr}{t:TE}(h:PE X e t)(he:∀whole,isTrue e X.env whole=(do let v <-whole;standAt e.pos;holding [v] (truthy v)):=by intro _;rfl):PT X e (tB t):=by intro pins s σ H Q I hw;refine isTrue_plain (thn (h pins s σ H _ I hw) fun v s1 ⟨x,H1,I1,r1,q1⟩=>?_) (he _);obtain⟨d,rfl,q⟩:=q1;cases r1;exact z2e ⟨H1,I1,q⟩
variable {tA tB':TT}{rest:List Expr}
def z0i(t u:TT):TT:=fun σ H Q=>t σ H fun c H1=>if c=true then u σ H1 Q else Q false H1
def tOr(t u:TT):TT:=fun σ H Q=>t σ H fun c H1=>if c=true then Q true H1 else u σ H1 Q
def z0c(t:TT):TT:=fun σ H Q=>t σ H fun c H1=>Q (!c) H1
theorem zqy(ha:PT X a tA):PW X (.BoolOp .And [a] pos) tA:=by
 intro wh pins s σ H Q I h;refine isTrue_and (thn (ha pins s σ H Q I h) fun c s1 e=>?_);cases c with
 |true=>exact isTrue_and_nil e
 |false=>exact e
theorem zt0(ha:PT X a tA):PW X (.BoolOp .Or [a] pos) tA:=by
 intro wh pins s σ H Q I h;refine isTrue_or (thn (ha pins s σ H Q I h) fun c s1 e=>?_);cases c with
 |false=>exact isTrue_or_nil e
 |true=>exact e
theorem zt1(ha:PT X a tA)(hb:PW X (.BoolOp .And (b::rest) pos) tB'):PW X (.BoolOp .And (a::b::rest) pos) (z0i tA tB'):=by
 intro wh pins s σ H Q I h;refine isTrue_and (thn (ha pins s σ H _ I h) fun c s1 ⟨H1,I1,q1⟩=>?_);cases c with
 |true=>exact hb wh pins s1 σ H1 Q I1 q1
 |false=>exact⟨H1,I1,q1⟩
theorem zxw(ha:PT X a tA)(hb:PW X (.BoolOp .Or (b::rest) pos) tB'):PW X (.BoolOp .Or (a::b::rest) pos) (tOr tA tB'):=by
 intro wh pins s σ H Q I h;refine isTrue_or (thn (ha pins s σ H _ I h) fun c s1 ⟨H1,I1,q1⟩=>?_);cases c with
 |true=>exact⟨H1,I1,q1⟩
 |false=>exact hb wh pins s1 σ H1 Q I1 q1
theorem zt5(ha:PT X a tA):PT X (.UnaryOp .Not a pos) (z0c tA):=by intro pins s σ H Q I h;exact isTrue_not (ha pins s σ H (fun c H1=>Q (!c) H1) I h)
def zxm(ta tb:TE):TE:=fun σ H Q=>ta σ H fun x H1=>∃c,x=.bl c/\if c=true then tb σ H1 Q else Q (.bl false) H1
def zxf(ta:TE):TE:=fun σ H Q=>ta σ H fun x H1=>∃c,x=.bl c/\Q (.bl (!c)) H1
theorem zug{op}{t:TE}(h:PE X a t):PE X (.BoolOp op [a] pos) t:=fun pins s σ H Q I hw=>BoolOp_one (h pins s σ H Q I hw)
theorem zuo(ha:PE X a ta)(hb:PE X (.BoolOp .And (b::rest) pos) tb):PE X (.BoolOp .And (a::b::rest) pos) (zxm ta tb):=by
 intro pins s σ H Q I h;refine BoolOp_and (thn (ha pins s σ H _ I h) fun v s1 ⟨x,H1,I1,r1,q1⟩=>?_);obtain⟨c,rfl,q1⟩:=q1;cases r1;refine z2e ?_;cases c with
 |true=>exact hb pins s1 σ H1 Q I1 q1
 |false=>exact⟨.bl false,H1,I1,rfl,q1⟩
theorem zuh(ha:PE X a ta):PE X (.UnaryOp .Not a pos) (zxf ta):=by intro pins s σ H Q I h;refine UnaryOp_ (thn (ha pins s σ H _ I h) fun v s1 ⟨x,H1,I1,r1,q1⟩=>?_);obtain⟨c,rfl,q1⟩:=q1;cases r1;exact not_of (z2e ⟨.bl (!c),H1,I1,rfl,q1⟩)
end
def SqL(K:zFr)(H:Hp)(a:Addr)(xs:List V):Prop :=
 Rd H a (.lst xs) \/
   ∃(o:Obj) (its:Array Value) (n:Nat),K.lookup a=some o/\o.cls=.type "list"/\o.dict=none/\o.data=.seq its n/\its.size<=sizeLine/\Vals xs its.toList
def SqT(K:zFr)(H:Hp)(a:Addr)(xs:List V):Prop :=
 Rd H a (.tup xs) \/
   ∃(o:Obj) (its:Array Value) (n:Nat),K.lookup a=some o/\o.cls=.type "tuple"/\o.data=.seq its n/\its.size<=sizeLine/\Vals xs its.toList
def z0z:Value->Option V
 | .none=>some .non
 | .bool b=>some (.bl b)
 | .int i _=>some (.int i)
 | .str x _=>some (.str x)
 | .bytes b _=>some (.byt b)
 | .float b _=>some (.flt b)
 | .ref a=>some (.ref a)
 | .type n=>some (.ty n)
 |_=>none
theorem RelV.abs{x:V}{u:Value}(r:RelV x u):z0z u=some x:=by
 cases x with
 |non=>cases r;rfl
 |bl _=>cases r;rfl
 |int _=>obtain⟨t,rfl⟩:=r;rfl
 |str _=>obtain⟨t,rfl⟩:=r;rfl
 |byt _=>obtain⟨t,rfl⟩:=r;rfl
 |flt _=>obtain⟨t,rfl⟩:=r;rfl
 |ref _=>cases r;rfl
 |ty _=>cases r;rfl
theorem RelV.inj{x y:V}{u:Value}(r:RelV x u)(q:RelV y u):x=y:=z1s (r.abs.symm.trans q.abs)
theorem Vals.inj:∀{xs ys:List V}{us:List Value},Vals xs us->Vals ys us->xs=ys
 |_,_,_,.nil,.nil=>rfl
 |_,_,_,.cons r t,.cons r' t'=>by rw[r.inj r',Vals.inj t t']
section
variable {X:Cx}{pins:zAO}{σ:St}{H:Hp}{s:Shared}{a:Addr}{xs ys:List V}
theorem SqL.of{K:zFr}(h:H a=some (.lst xs)):SqL K H a xs:=.inl (.inl h)
theorem Inv.list(I:Inv X pins σ H s)(h:SqL X.K H a xs):∃its:List Value,Vals xs its/\PlainL s.heap a its.toArray/\xs.length<=sizeLine:=by
 rcases h with h | ⟨o,its,n,hk,hc,hd,hs,hz,r⟩
 · obtain⟨z,its,n,r,e⟩:=h.ok I.hok;exact⟨its,r,⟨_,n,e,rfl,rfl,rfl⟩,z⟩
 · refine⟨its.toList,r,⟨o,n,I.kIn a o hk,hc,hd,by simpa using hs⟩,?_⟩;have e:=r.length;simp only[Array.length_toList]at e;omega
theorem Inv.tuple(I:Inv X pins σ H s)(h:SqT X.K H a xs):∃its:List Value,Vals xs its/\IsTup s.heap a its.toArray/\xs.length<=sizeLine:=by
 rcases h with h | ⟨o,its,n,hk,hc,hs,hz,r⟩
 · obtain⟨z,its,r,p⟩:=h.ok I.hok;exact⟨its,r,p,z⟩
 · refine⟨its.toList,r,⟨o,I.kIn a o hk,hc,n,by simpa using hs⟩,?_⟩;have e:=r.length;simp only[Array.length_toList]at e;omega
theorem Inv.list_inj(I:Inv X pins σ H s)(h:SqL X.K H a xs)(h':SqL X.K H a ys):xs=ys:=by
 obtain⟨its,r,⟨o,n,e,_,_,d⟩,_⟩:=I.list h;obtain⟨its',r',⟨o',n',e',_,_,d'⟩,_⟩:=I.list h';rw[e]at e';cases e';rw[d]at d';injection d' with d1 _;have:its=its':=by simpa using z2f Array.toList d1
 subst this;exact r.inj r'
theorem Inv.tuple_inj(I:Inv X pins σ H s)(h:SqT X.K H a xs)(h':SqT X.K H a ys):xs=ys:=by
 obtain⟨its,r,⟨o,e,_,n,d⟩,_⟩:=I.tuple h;obtain⟨its',r',⟨o',e',_,n',d'⟩,_⟩:=I.tuple h';rw[e]at e';cases e';rw[d]at d';injection d' with d1 _;have:its=its':=by simpa using z2f Array.toList d1
 subst this;exact r.inj r'
end
abbrev Cx.wish(X:Cx)(E:zVP):Cx:={ X with xe:=E }
abbrev Cx.nox(X:Cx):Cx:=X.wish fun _ _=>False
theorem Cx.Ok.wish{X:Cx}(ok:X.Ok)(E:zVP):(X.wish E).Ok :=
 ⟨ok.mod,ok.kind,ok.glob,ok.blt,ok.above,ok.inj,ok.has,ok.cab,ok.hd,ok.frames,ok.stk,ok.exf,ok.bs,ok.bsz,ok.noex,ok.exfs,ok.funs,ok.frf⟩
theorem Cx.Ok.unwish{X:Cx}{E:zVP}(ok:(X.wish E).Ok):X.Ok :=
 ⟨ok.mod,ok.kind,ok.glob,ok.blt,ok.above,ok.inj,ok.has,ok.cab,ok.hd,ok.frames,ok.stk,ok.exf,ok.bs,ok.bsz,ok.noex,ok.exfs,ok.funs,ok.frf⟩
section
variable {X:Cx}{pins:zAO}{σ:St}{H:Hp}{s:Shared}{E:zVP}
theorem Inv.wish(I:Inv X pins σ H s)(E:zVP):Inv (X.wish E) pins σ H s:=⟨I.ok.wish E,I.os,I.bare,I.base,I.loc,I.cell,I.free,I.freeC,I.pin,I.hok,I.len⟩
theorem Inv.unwish(I:Inv (X.wish E) pins σ H s):Inv X pins σ H s:=⟨I.ok.unwish,I.os,I.bare,I.base,I.loc,I.cell,I.free,I.freeC,I.pin,I.hok,I.len⟩
theorem SP.unwish{D:Ends}{f:Flow}{s':Shared}(h:SP (X.wish E) pins D f s'):SP X pins D f s':=by
 cases f with
 |next=>obtain⟨σ',H',I,q⟩:=h;exact⟨σ',H',I.unwish,q⟩
 |brk=>obtain⟨σ',H',I,q⟩:=h;exact⟨σ',H',I.unwish,q⟩
 |cont=>obtain⟨σ',H',I,q⟩:=h;exact⟨σ',H',I.unwish,q⟩
 |ret u=>obtain⟨v,σ',H',I,r,q⟩:=h;exact⟨v,σ',H',I.unwish,r,q⟩
theorem PE.nox{e:Expr}{t:TE}(h:PE X.nox e t):PE X e t:=fun pins s σ H Q I hw=>
 z24 (h pins s σ H Q (I.wish _) hw) (fun _ _ ⟨v,H',I',r,q⟩=>⟨v,H',I'.unwish,r,q⟩) fun _ _ z=>False.elim z
theorem PSs.nox{st:List Stmt}{t:TS}(h:PSs X.nox st t):PSs X st t:=fun pins s σ H D I hw=>
 z24 (h pins s σ H D (I.wish _) hw) (fun _ _ q=>q.unwish) fun _ _ z=>False.elim z
end
section
variable {X:Cx}{st:Stmt}{rest:List Stmt}{t u:TS}{e:Expr}{te:TE}{pos:Pos}
def zxg:TS:=fun D σ H=>D.nx σ H
def z0a(t u:TS):TS:=fun D σ H=>t { D with nx:=u D } σ H
theorem zq1:PSs X [] zxg:=fun _ _ σ H _ I h=>z30 ⟨σ,H,I,h⟩
theorem znd(h1:PS X st t)(h2:PSs X rest u):PSs X (st::rest) (z0a t u):=by
 intro pins s σ H D I h;refine wpAny_execs_cons (thn (h1 pins s σ H { D with nx:=u D } I h) fun f s1 q=>?_);cases f with
 | next=>
   obtain⟨σ',H',I',q⟩:=q;exact h2 pins s1 σ' H' D I' q
 |ret v=>exact q
 |brk=>exact q
 |cont=>exact q
theorem zq0(h1:PS X st t):PSs X [st] t:=by
 intro pins s σ H D I h;refine wpAny_execs_cons (thn (h1 pins s σ H D I h) fun f s1 q=>?_);cases f with
 |next=>exact z30 q
 |ret v=>exact q
 |brk=>exact q
 |cont=>exact q
theorem Inv.quiet{pins:zAO}{σ:St}{H:Hp}{s:Shared}(I:Inv X pins σ H s):interactive X.env=false:=by simp[interactive,I.ok.kind]
def zxi(te:TE):TS:=fun D σ H=>te σ H fun _ H1=>D.nx σ H1
theorem zks(he:PE X e te)(hs:swapsWith e none pos.line X.env=pure false:=by rfl):PS X (.Expr e pos) (zxi te):=by intro pins s σ H D I h;exact wpAny_Expr_any (thn (he pins s σ H _ I h) fun v s1 ⟨x,H1,I1,r1,q1⟩=>⟨σ,H1,I1,q1⟩) I.quiet hs
def z0b(te:TE):TS:=fun D σ H=>te σ H D.rt
theorem zt7(he:PE X e te):PS X (.Return (some e) pos) (z0b te):=by intro pins s σ H D I h;exact wpAny_Return_some (thn (he pins s σ H _ I h) fun v s1 ⟨x,H1,I1,r1,q1⟩=>⟨x,σ,H1,I1,r1,q1⟩)
def z0e(c:TT)(t u:TS):TS:=fun D σ H=>c σ H fun b H1=>if b=true then t D σ H1 else u D σ H1
theorem zxz{c:Expr}{a b:List Stmt}{tc:TT}(hc:PT X c tc)(ha:PSs X a t)(hb:PSs X b u):PS X (.If c a b pos) (z0e tc t u):=by
 intro pins s σ H D I h;refine wpAny_If (thn (hc pins s σ H _ I h) fun d s1 ⟨H1,I1,q1⟩=>?_);cases d with
 |true=>exact ha pins s1 σ H1 D I1 q1
 |false=>exact hb pins s1 σ H1 D I1 q1
def ztj:TS:=fun _ _ _=>False
theorem znf:PS X st ztj:=fun _ _ _ _ _ _ h=>h.elim
end
abbrev TG:=V->St->Hp->(St->Hp->Prop)->Prop
abbrev TGs:=List V->St->Hp->(St->Hp->Prop)->Prop
def PG(X:Cx)(target:Expr)(t:TG):Prop :=
 ∀(pins:zAO) (s:Shared) (σ:St) (H:Hp) (v:V) (u:Value) (Q:St->Hp->Prop),Inv X pins σ H s->RelV v u->t v σ H Q ->
   wpAny (model X.prog X.w) X.A (assign target X.env u) (fun _ s'=>∃σ' H',Inv X pins σ' H' s'/\Q σ' H') X.xe s
def PGs(X:Cx)(ts:List Expr)(t:TGs):Prop :=
 ∀(pins:zAO) (s:Shared) (σ:St) (H:Hp) (vs:List V) (us:List Value) (Q:St->Hp->Prop),Inv X pins σ H s->Vals vs us->t vs σ H Q ->
   wpAny (model X.prog X.w) X.A (assignInOrder ((assignEach ts X.env).map (·.2)) us) (fun _ s'=>∃σ' H',Inv X pins σ' H' s'/\Q σ' H') X.xe s
section
variable {X:Cx}{pos:Pos}
def zft(i:Nat):TG:=fun v σ H Q=>Q (σ.set i (some v)) H
theorem zcj{i:Nat}{x:Str}(hN:X.N.Nodup)(hi:X.N[i]? = some x)(hx:Loc X.env.scope x)(hf:X.fn x=true\/X.env.scope.names.lookup x=some .local:=by first | exact .inl rfl | exact .inr rfl | assumption):PG X (.Name x pos) (zft i):=by intro pins s σ H v u Q I r h;exact wpAny_assign_Name (zh1 I hN hi hx r (fun s' I'=>⟨_,H,I',h⟩) hf)
def zz0:TGs:=fun vs σ H Q=>vs=[]/\Q σ H
def znz(t:TG)(u:TGs):TGs:=fun vs σ H Q=>∃v r,vs=v::r/\t v σ H fun σ' H'=>u r σ' H' Q
theorem zq5:PGs X [] zz0:=by intro pins s σ H vs us Q I r h;obtain⟨e,h⟩:=h;subst e;cases r;exact assignInOrder_nil ⟨σ,H,I,h⟩
theorem znh{e:Expr}{es:List Expr}{t:TG}{u:TGs}(h1:PG X e t)(h2:PGs X es u)
   (hs:(assignEach (e::es) X.env).map (·.2)=assign e X.env::(assignEach es X.env).map (·.2):=by rfl):PGs X (e::es) (znz t u):=by
 intro pins s σ H vs us Q I r h;obtain⟨v,vr,e1,h⟩:=h;subst e1;cases r with
 | cons r rr=>
   rw[hs];refine assignInOrder_cons (thn (h1 pins s σ H _ _ _ I r h) fun _ s1 ⟨σ1,H1,I1,q1⟩=>?_);exact h2 pins s1 σ1 H1 _ _ Q I1 rr q1
def z0s(K:zFr)(n:Nat)(t:TGs):TG:=fun v σ H Q=>∃a xs,v=.ref a/\SqT K H a xs/\xs.length=n/\t xs σ H Q
theorem zub{es:List Expr}{k:Nat}{t:TGs}{n:Nat}(hc:X.calm=true)(h:PGs X es t)
   (hn:(assignEach es X.env).length=n:=by rfl) (hst:(assignEach es X.env).findIdx? (·.1)=none:=by rfl):PG X (.Tuple es k pos) (z0s X.K n t):=by
 intro pins s σ H v u Q I r hw;obtain⟨a,xs,e1,hq,hl,hw⟩:=hw;subst e1;cases r;obtain⟨its,rv,ht,hz⟩:=I.tuple hq;refine assign_Tuple_tuple (I.ok.hd hc) ht (by simp[hn,<-hl,rv.length]) hst fun h' hx=>?_;have I1:Inv X pins σ H { s with heap:=h' }:=I.kept (t':=s.toks) fun b o e=>hx b o (z1o (z1l e)) e;exact h pins _ σ H xs _ Q I1 (by simpa using rv) hw
def zzn(te:TE)(g:TG):TS:=fun D σ H=>te σ H fun x H1=>g x σ H1 D.nx
theorem zt9{tg e:Expr}{te:TE}{g:TG}(he:PE X e te)(hg:PG X tg g)(hs:swapsWithSole [tg] e pos.line X.env=pure false:=by rfl)(hw:swappedStores [tg] e X.env=pure none:=by rfl)
   (h1:(assignEach [tg] X.env).map (·.2)=[assign tg X.env]:=by rfl):PS X (.Assign [tg] e pos) (zzn te g):=by
 intro pins s σ H D I h;refine wpAny_Assign_stores (thn (he pins s σ H _ I h) fun v s1 ⟨x,H1,I1,r1,q1⟩=>?_) hs hw;rw[h1];exact thn (hg pins s1 σ H1 x v _ I1 r1 q1) fun _ s2 q=>q
theorem zt6{i:Nat}{x:Str}{e:Expr}{te:TE}{pos':Pos}(hN:X.N.Nodup)(hi:X.N[i]? = some x)(hx:Loc X.env.scope x)(he:PE X e te)(hs:swapsWith e (some (.Name x pos')) pos.line X.env=pure false:=by rfl)(hf:X.fn x=true\/X.env.scope.names.lookup x=some .local:=by first | exact .inl rfl | exact .inr rfl | assumption) :
   PS X (.Assign [.Name x pos'] e pos) (zzn te (zft i)):=by
 intro pins s σ H D I h;refine wpAny_Assign_Name (thn (he pins s σ H _ I h) fun v s1 ⟨y,H1,I1,r1,q1⟩=>?_) hs;exact zh1 I1 hN hi hx r1 (fun s2 I2=>⟨_,H1,I2,q1⟩) hf
end
section
variable {X:Cx}{pos:Pos}
def zti(c:TT)(tb:TS):TS:=fun D σ H=>∃W:Nat->St->Hp->Prop,(∃m,W m σ H)/\∀m σ H,W m σ H ->
 c σ H fun b H1=>if b=true then ∃N:St->Hp->Prop,(∀σ' H',N σ' H'->∃m',m'<m/\W m' σ' H')/\tb { D with nx:=N,ct:=N,bk:=D.nx } σ H1 else D.nx σ H1
theorem zne{c:Expr}{body:List Stmt}{tc:TT}{tb:TS}(hp:PassesOwn (model X.prog X.w) X.A X.env X.xe)(hc:PT X c tc)(hb:PSs X body tb):PS X (.While c body [] pos) (zti tc tb):=by
 intro pins s σ H D I h;obtain⟨W,⟨m0,w0⟩,turn⟩:=h;refine wpAny_While (codeAny_whileLoop (fun n s'=>∃σ' H',Inv X pins σ' H' s'/\W n σ' H') ?_ m0 ⟨σ,H,I,w0⟩);rintro n s1 ⟨σ1,H1,I1,w1⟩;refine z2v hp (thn (hc pins s1 σ1 H1 _ I1 (turn n σ1 H1 w1)) fun b s2 ⟨H2,I2,q2⟩=>?_);cases b with
 | true=>
   obtain⟨N,hN,q2⟩:=q2;rw[z1t rfl];refine z2v hp (thn (hb pins s2 σ1 H2 _ I2 q2) fun f s3 q3=>?_);cases f with
   | next=>
     obtain⟨σ3,H3,I3,n3⟩:=q3;obtain⟨m',hm,w3⟩:=hN σ3 H3 n3;exact⟨m',hm,σ3,H3,I3,w3⟩
   | cont=>
     obtain⟨σ3,H3,I3,n3⟩:=q3;obtain⟨m',hm,w3⟩:=hN σ3 H3 n3;exact⟨m',hm,σ3,H3,I3,w3⟩
   |brk=>exact q3
   |ret v=>exact q3
 | false=>
   rw[z10 z16];exact z30 ⟨σ1,H2,I2,q2⟩
end
structure It where
 go:Nat->Hp->Prop
 yld:Nat->Hp->V->Hp->Prop
 stop:Nat->Hp->Prop
def zms(X:Cx)(pins:zAO)(H:Hp)(b:Addr):Prop :=
 H b=none/\b≠X.env.locals/\b∉X.fs/\(b∈X.ex\/X.s₀.heap.objs.size<=b)/\(∀x c,X.env.cells.lookup x=some c->c≠b)/\∀p∈X.pn++pins,p.1≠b
theorem Inv.fpOk{X:Cx}{pins:zAO}{σ:St}{H H':Hp}{s:Shared}{b:Addr}(I:Inv X pins σ H s)(hb:s.heap.objs.size<=b)(hn:H' b=none):zms X pins H' b:=by
 refine⟨hn,Nat.ne_of_gt (z1d I.lt hb),I.nofs hb,.inr (z1u I.sz hb),fun x c e z=>?_,fun p hp z=>?_⟩
 · obtain⟨v,q⟩:=I.cell x c e;exact absurd (z1d q.lt (by rw[z];exact hb)) (z20 _)
 · exact absurd (z1d (z1l (I.pin p hp).1) (by rw[z];exact hb)) (z20 _)
structure Turn (P:Program) (w:World) (K:zFr) (tg:Expr) (J:It) (fp:List Addr) (it:Addr) (tn:Nat->Heap->Prop):Prop where
 mem:it∈fp
 obj:∀i h,tn i h->∀b∈fp,∃o,h.get? b=some o/\∀v,o.data≠.cell v
 keep:∀i h h',tn i h->(∀b∈fp,∀o,h.get? b=some o->h'.get? b=some o)->tn i h'
 item:∀(X:Cx),X.prog=P->X.w=w->X.K=K->X.calm=true->∀(i:Nat) (pins:zAO) (s:Shared) (σ:St) (H:Hp) (E:zVP),Inv X pins σ H s->(∀b∈fp,zms X pins H b)->tn i s.heap->J.go i H ->
   wpAny (model P w) X.A (pyNext (.ref it)) (fun r s1=>∃u,r=some u /\
     wpAny (model P w) X.A (letOwnedTupleGo tg (.ref it) u) (fun _ s2=>∃x H',Inv X pins σ H' s2/\RelV x u/\J.yld i H x H'/\tn (i+1) s2.heap/\∀b∈fp,H' b=none) E s1) E s
 done:∀(X:Cx),X.prog=P->X.w=w->X.K=K->X.calm=true->∀(i:Nat) (pins:zAO) (s:Shared) (σ:St) (H:Hp) (E:zVP),Inv X pins σ H s->(∀b∈fp,zms X pins H b)->tn i s.heap->J.stop i H ->
   wpAny (model P w) X.A (pyNext (.ref it)) (fun r s1=>r=none/\Inv X pins σ H s1) E s
 self:∀(A:Around) (i:Nat) (s:Shared) (Q:zVP) (E:zVP),tn i s.heap->Q (.ref it) s->wpAny (model P w) A (pyIter (.ref it)) Q E s
abbrev TI:=St->Hp->(It->Hp->Prop)->Prop
def PIE(X:Cx)(pins:zAO)(σ:St)(tg:Expr)(R:It->Hp->Prop)(itv:Value)(s2:Shared):Prop :=
 ∃(it:Addr) (fp:List Addr) (tn:Nat->Heap->Prop) (J:It) (H':Hp),itv=.ref it/\Inv X pins σ H' s2/\Turn X.prog X.w X.K tg J fp it tn/\tn 0 s2.heap/\(∀b∈fp,zms X pins H' b)/\R J H'
def PI(X:Cx)(tg iter:Expr)(wi:TI):Prop :=
 ∀(pins:zAO) (s:Shared) (σ:St) (H:Hp) (R:It->Hp->Prop),Inv X pins σ H s->wi σ H R ->
   wpAny (model X.prog X.w) X.A (eval iter X.env) (fun v s1=>wpAny (model X.prog X.w) X.A (pyIter v) (PIE X pins σ tg R) X.xe s1) X.xe s
theorem zry{M:Model}{A:Around}{E:zVP}{s:Shared}{tg:Expr}{it:Addr}{u:Value}{o:Obj}{n:String}{vs:Array Value}{Q:Unit->Shared->Prop}(ho:s.heap.get? it=some o)(hc:o.cls=.type n)(hd:o.data=.fields vs)
   (hn:["enumerate", "zip", "dict_itemiterator", "dict_reverseitemiterator", "odict_iterator", "itertools.zip_longest", "itertools.pairwise"].contains n=false) (hQ:Q () s):wpAny M A (letOwnedTupleGo tg (.ref it) u) Q E s:=by
 unfold letOwnedTupleGo;cases tg<;>first
   |exact z2p hQ
   | (cases u<;>first
       |exact z2p hQ
       | (refine z1v (wpAny_load ho ?_)
          rw[hc,hd];show wpAny M A (if(["enumerate", "zip", "dict_itemiterator", "dict_reverseitemiterator", "odict_iterator", "itertools.zip_longest", "itertools.pairwise"].contains n&&vs[0]?==some (rawInt _))=true then _ else _) Q E s;rw[z10 (by intro h;rw[hn,Bool.false_and]at h;cases h)];exact z2p hQ))
def Itl(K:zFr)(a:Addr):It :=
 ⟨fun i H=>∃xs x,SqL K H a xs/\xs[i]? = some x,fun i H x H'=>H'=H/\∀xs,SqL K H a xs->xs[i]? = some x,fun i H=>∃xs,SqL K H a xs/\xs.length<=i⟩
def Itr(lo:Int)(n:Nat):It:=⟨fun i _=>i<n,fun i H x H'=>H'=H/\x=.int (lo+i),fun i _=>n<=i⟩
theorem zj1{P:Program}{w:World}{K:zFr}{tg:Expr}(a it:Addr):Turn P w K tg (Itl K a) [it] it (fun i h=>h.IsListIter it a i) where
 mem:=by simp
 obj:=fun i h st b hb=>by
   have e:b=it:=by simpa using hb
   subst e;obtain⟨o,e,c,d⟩:=st;exact⟨o,e,fun v z=>by rw[d]at z;cases z⟩
 keep:=fun i h h' st k=>st.at fun o e=>k it (by simp) o e
 item:=by intro X hP hw hK hc i pins s σ H E I hf st hg;subst hP hw hK;obtain⟨xs,x,hq,hx⟩:=hg;obtain⟨its,rv,p,hz⟩:=I.list hq;obtain⟨u,hu,ru⟩:=rv.get hx;obtain⟨f0,f1,f2,f3,f4,f5⟩:=hf it (by simp);refine wpAny_pyNext_list_item st p.isList (x:=u) (by simpa using hu) fun h' st' sb=>?_;have I1:Inv X pins σ H { s with heap:=h' }:=I.turned (t':=s.toks) (fun b o hb e=>(sb.2 b hb).trans e) f0 f1 f3 f4 f5;obtain⟨o,e,c,d⟩:=id st';exact⟨u,rfl,zry (s:={ s with heap:=h' }) e c d (by decide) ⟨x,H,I1,ru,⟨rfl,fun ys hy=>by rw[I.list_inj hy hq];exact hx⟩,st',fun b hb=>(hf b hb).1⟩⟩
 done:=by intro X hP hw hK hc i pins s σ H E I hf st hg;subst hP hw hK;obtain⟨xs,hq,hx⟩:=hg;obtain⟨its,rv,p,hz⟩:=I.list hq;obtain⟨f0,f1,f2,f3,f4,f5⟩:=hf it (by simp);have hl:=rv.length;exact wpAny_pyNext_list_end (I.ok.hd hc) st p.isList (by simp;omega) fun h' eb=>⟨rfl,I.turned (t':=s.toks) (fun b o hb e=>eb b o hb e) f0 f1 f3 f4 f5⟩
 self:=fun _ _ _ _ _ st h=>wpAny_pyIter_listiter st h
theorem zi4{P:Program}{w:World}{K:zFr}{tg:Expr}(it:Addr)(lo:Int)(n:Nat):Turn P w K tg (Itr lo n) [it] it (fun i h=>IsRangeIter h it (lo+(i:Nat)*1) ((n:Int)-(i:Nat)) 1) where
 mem:=by simp
 obj:=fun i h st b hb=>by
   have e:b=it:=by simpa using hb
   subst e;exact⟨_,st,fun v z=>by
     have z':Data.fields _=Data.cell v:=z;cases z'⟩
 keep:=fun i h h' st k=>k it (by simp) _ st
 item:=by intro X hP hw hK hc i pins s σ H E I hf st hg;subst hP hw hK;obtain⟨f0,f1,f2,f3,f4,f5⟩:=hf it (by simp);have W:=Walks.range (prog:=X.prog) (w:=X.w) (I.ok.hd hc) it lo 1 n;refine W.item i s _ _ hg st fun v h' tk hv st' kk=>?_;obtain⟨t,rfl⟩:=hv;have I1:Inv X pins σ H { s with heap:=h',toks:=tk }:=I.turned (fun b o hb e=>kk b o (by simpa using hb) e) f0 f1 f3 f4 f5;refine⟨_,rfl,zry (s:={ s with heap:=h',toks:=tk }) (n:="range_iterator") st' rfl rfl (by decide) ⟨.int (lo+i),H,I1,⟨t,?_⟩,⟨rfl,rfl⟩,st',fun b hb=>(hf b hb).1⟩⟩;rw[Int.mul_one]
 done:=by intro X hP hw hK hc i pins s σ H E I hf st hg;subst hP hw hK;obtain⟨f0,f1,f2,f3,f4,f5⟩:=hf it (by simp);exact wpAny_pyNext_range_end (I.ok.hd hc) st (by have:n<=i:=hg;omega) fun h' eb=>⟨rfl,I.turned (t':=s.toks) (fun b o hb e=>eb b o hb e) f0 f1 f3 f4 f5⟩
 self:=fun _ _ _ _ _ st h=>wpAny_pyIter_rangeiter st h
section
variable {X:Cx}{tg:Expr}
def zym(K:zFr)(tl:TE):TI:=fun σ H R=>tl σ H fun x H1=>∃a,x=.ref a/\(∃xs,SqL K H1 a xs)/\R (Itl K a) H1
theorem zkv{l:Expr}{tl:TE}(hl:PE X l tl):PI X tg l (zym X.K tl):=by
 intro pins s σ H R I h;refine thn (hl pins s σ H _ I h) fun v s1 ⟨x,H1,I1,r1,q1⟩=>?_;obtain⟨a,e,⟨xs,hq⟩,q⟩:=q1;subst e;cases r1;obtain⟨its,rv,p,hz⟩:=I1.list hq;refine wpAny_pyIter_list p.isList ?_;refine⟨s1.heap.objs.size,[s1.heap.objs.size],_,_,H1,rfl,I1.kept (t':=s1.toks) fun b o e=>z1i _ e,zj1 a _,⟨_,z1w _ rfl,rfl,rfl⟩,fun b hb=>?_,q⟩;have e:b=s1.heap.objs.size:=by simpa using hb
 subst e;exact I1.fpOk (z07 _) (I1.hok.fresh (z07 _))
theorem zm9{pins:zAO}{σ:St}{H:Hp}{s:Shared}{R:It->Hp->Prop}{E:zVP}{lo hi:Int}{t u v:Tok}{tk:Nat}(I:Inv X pins σ H s)(h1:-(2^62)<=lo)(h2:lo<2^62)(h3:-(2^62)<=hi)(h4:hi<2^62)
   (q:R (Itr lo (hi-lo).toNat) H):wpAny (model X.prog X.w) X.A (pyIter (.ref s.heap.objs.size)) (PIE X pins σ tg R) E { s with heap:=s.heap.push { cls:=.type "range",data:=.fields #[.int lo t,.int hi u,.int 1 v] },toks:=tk }:=by
 refine wpAny_pyIter_range (IsRange.new ..) (small_one h1 h2 h3 h4) ?_;have I1:Inv X pins σ H { s with heap:=s.heap.push { cls:=.type "range",data:=.fields #[.int lo t,.int hi u,.int 1 v] },toks:=tk }:=I.kept fun b o e=>z1i _ e;refine⟨(s.heap.push { cls:=.type "range",data:=.fields #[.int lo t,.int hi u,.int 1 v] }).objs.size,[(s.heap.push { cls:=.type "range",data:=.fields #[.int lo t,.int hi u,.int 1 v] }).objs.size],_,_,H,rfl,
   I1.kept (t':=tk) fun b o e=>z1i _ e,zi4 _ lo (hi-lo).toNat,?_,fun b hb=>?_,q⟩
 · have e1:lo+((0:Nat):Int)*1=lo:=by simp
   have e2:(((hi-lo).toNat:Nat):Int)-((0:Nat):Int)=Builtin.Range.rangeSize lo hi 1:=by rw[rangeSize_one];split<;>omega
   show IsRangeIter _ _ (lo+((0:Nat):Int)*1) ((((hi-lo).toNat:Nat):Int)-((0:Nat):Int)) 1;rw[e1,e2];exact z1w _ rfl
 · have e:b=(s.heap.push { cls:=.type "range",data:=.fields #[.int lo t,.int hi u,.int 1 v] }).objs.size:=by simpa using hb
   subst e;exact I1.fpOk (z07 _) (I1.hok.fresh (z07 _))
def zyl(ta:TA):TI:=fun σ H R=>ta σ H fun vs H1=>∃j:Int,vs=[.int j]/\-(2^62)<=j/\j<2^62/\R (Itr 0 j.toNat) H1
theorem zff{a:Expr}{ta:TA}{p pos:Pos}(hg:Gl X "range")(hm:X.mg "range"=none)(ha:PA X [a] ta)(hs:starEach [a] X.env=[(false,eval a X.env)]:=by rfl):PI X tg (.Call (.Name "range" p) [a] [] pos) (zyl ta):=by
 intro pins s σ H R I h;refine Call_ (zld I hg hm boot_range (z31 (thn (ha pos pins s σ H _ I h) fun us s1 ⟨vs,H1,I1,r1,q1⟩=>?_) hs rfl));obtain⟨j,e,q1,q2,q⟩:=q1;subst e;cases r1 with
 | cons r rr=>
   cases rr;obtain⟨t,rfl⟩:=r;exact call_range_1 (zm9 I1 (by omega) (by omega) q1 q2 (by simpa using q))
def z0f(wi:TI)(g:TG)(tb:TS):TS:=fun D σ H=>wi σ H fun J H1=>∃W:Nat->Nat->St->Hp->Prop,(∃m,W 0 m σ H1)/\∀i m σ H,W i m σ H ->
 (J.stop i H/\D.nx σ H)\/(J.go i H/\∃N:St->Hp->Prop,(∀σ' H',N σ' H'->∃m',m'<m/\W (i+1) m' σ' H')/\∀x H',J.yld i H x H'->g x σ H' fun σ2 H2=>tb { D with nx:=N,ct:=N,bk:=D.nx } σ2 H2)
def zh8(fp:List Addr)(h:Heap):zAO:=fp.filterMap fun b=>(h.get? b).map fun o=>(b,o)
theorem kr{fp:List Addr}{h:Heap}{b:Addr}{o:Obj}(hb:b∈fp)(e:h.get? b=some o):(b,o)∈zh8 fp h:=List.mem_filterMap.mpr ⟨b,hb,by rw[e];rfl⟩
theorem zk4{fp:List Addr}{h:Heap}{p:Addr×Obj}(hp:p∈zh8 fp h):p.1∈fp/\h.get? p.1=some p.2:=by
 obtain⟨b,hb,e⟩:=List.mem_filterMap.mp hp;cases q:h.get? b with
 |none=>rw[q]at e;cases e
 | some o=>
   rw[q]at e;have e':(b,o)=p:=z1s e;subst e';exact⟨hb,q⟩
theorem Inv.pinned{pins:zAO}{σ:St}{H:Hp}{s:Shared}{fp:List Addr}(I:Inv X pins σ H s)(hf:∀b∈fp,zms X pins H b)(ho:∀b∈fp,∃o,s.heap.get? b=some o/\∀v,o.data≠.cell v):Inv X (pins++zh8 fp s.heap) σ H s :=
 I.pins_of fun p hp=>(z1p.mp hp).elim (fun z=>I.pin p (z1f _ z)) fun z=>by obtain⟨hb,e⟩:=zk4 z;obtain⟨f0,f1,f2,_⟩:=hf p.1 hb;obtain⟨o,e',d⟩:=ho p.1 hb;rw[e]at e';cases e';exact⟨e,f0,f1,f2,d⟩
theorem Inv.unpinned{pins pl:zAO}{σ:St}{H:Hp}{s:Shared}(I:Inv X (pins++pl) σ H s):Inv X pins σ H s:=I.pins_of fun p hp=>I.pin p (z1f _ (z2n _ hp))
theorem zh7{iter:Expr}{body:List Stmt}{wi:TI}{g:TG}{tb:TS}{pos:Pos}(hp:PassesOwn (model X.prog X.w) X.A X.env X.xe)(hc:X.calm=true)(hi:PI X tg iter wi)(hg:PG X tg g)(hb:PSs X body tb)
   (hs:∀x,foldedSetIterable iter X.env x=pure x:=by intro _;rfl):PS X (.For tg iter body [] pos) (z0f wi g tb):=by
 intro pins s σ H D I h;refine wpAny_For (thn (hi pins s σ H _ I h) fun v s1 h1=>thn h1 fun itv s2 h2=>?_) hs;obtain⟨it,fp,tn,J,H2,e,I2,T,st2,f2,W,⟨m0,w0⟩,turn⟩:=h2;subst e;have stat:∀{H':Hp},(∀b∈fp,H' b=none)->∀b∈fp,zms X pins H' b:=fun hn b hb=>⟨hn b hb,(f2 b hb).2⟩
 refine codeAny_forLoop_any (fun n s'=>∃i σ' H',Inv X pins σ' H' s'/\tn i s'.heap/\(∀b∈fp,H' b=none)/\W i n σ' H') ?_ m0 ⟨0,σ,H2,I2,st2,fun b hb=>(f2 b hb).1,w0⟩;rintro n s3 ⟨i,σ3,H3,I3,st3,fr3,w3⟩;rcases turn i n σ3 H3 w3 with⟨stop,qn⟩ | ⟨go,N,hN,step⟩
 · refine z2v hp (thn (T.done X rfl rfl rfl hc i pins s3 σ3 H3 X.xe I3 (stat fr3) st3 stop) fun r s4 ⟨hr,I4⟩=>?_);subst hr;exact z30 ⟨σ3,H3,I4,qn⟩
 · refine z2v hp (thn (T.item X rfl rfl rfl hc i pins s3 σ3 H3 X.xe I3 (stat fr3) st3 go) fun r s4 ⟨u,hr,h4⟩=>?_);subst hr;refine z2v hp (thn h4 fun _ s5 ⟨x,H5,I5,r5,y5,st5,fr5⟩=>?_);have I5':=I5.pinned (stat fr5) (T.obj _ _ st5);refine z2v hp (thn (hg _ s5 σ3 H5 x u _ I5' r5 (step x H5 y5)) fun _ s6 ⟨σ6,H6,I6,q6⟩=>?_);refine z2v hp (thn (hb _ s6 σ6 H6 _ I6 q6) fun f s7 q7=>?_);have again:∀{σ7:St}{H7:Hp},Inv X (pins++zh8 fp s5.heap) σ7 H7 s7->N σ7 H7->∃m,m<n/\∃i σ' H',Inv X pins σ' H' s7/\tn i s7.heap/\(∀b∈fp,H' b=none)/\W i m σ' H':=fun {σ7 H7} I7 n7=>by obtain⟨m',hm,w7⟩:=hN σ7 H7 n7;refine⟨m',hm,i+1,σ7,H7,I7.unpinned,T.keep _ _ _ st5 fun b hb o e=>(I7.pin (b,o) (z1f _ (z1f _ (kr hb e)))).1,fun b hb=>?_,w7⟩;obtain⟨o,e,d⟩:=T.obj _ _ st5 b hb;exact(I7.pin (b,o) (z1f _ (z1f _ (kr hb e)))).2.1
   cases f with
   |next=>obtain⟨σ7,H7,I7,n7⟩:=q7;exact again I7 n7
   |cont=>obtain⟨σ7,H7,I7,n7⟩:=q7;exact again I7 n7
   |brk=>obtain⟨σ7,H7,I7,q7⟩:=q7;exact⟨σ7,H7,I7.unpinned,q7⟩
   |ret v=>obtain⟨x7,σ7,H7,I7,r7,q7⟩:=q7;exact⟨x7,σ7,H7,I7.unpinned,r7,q7⟩
end
theorem zn2{K:zFr}{a:Addr}{xs:List V}{g:TG}{tb:TS}{D:Ends}{σ:St}{H:Hp}(Pv:Nat->St->Hp->Prop)(h0:Pv 0 σ H)(hl:∀i σ H,i<=xs.length->Pv i σ H->SqL K H a xs)
   (hs:∀i x σ H,xs[i]? = some x->Pv i σ H->g x σ H fun σ2 H2=>tb { D with nx:=Pv (i+1),ct:=Pv (i+1),bk:=D.nx } σ2 H2) (hd:∀σ H,Pv xs.length σ H->D.nx σ H) :
   ∃W:Nat->Nat->St->Hp->Prop,(∃m,W 0 m σ H)/\∀i m σ H,W i m σ H ->
     ((Itl K a).stop i H/\D.nx σ H)\/((Itl K a).go i H/\∃N:St->Hp->Prop,(∀σ' H',N σ' H'->∃m',m'<m/\W (i+1) m' σ' H')/\∀x H',(Itl K a).yld i H x H'->g x σ H' fun σ2 H2=>tb { D with nx:=N,ct:=N,bk:=D.nx } σ2 H2):=by
 refine⟨fun i m σ H=>m=xs.length-i/\i<=xs.length/\Pv i σ H,⟨xs.length,by simp,z1y _,h0⟩,?_⟩;rintro i m σ H ⟨rfl,hi,p⟩;have q:=hl i σ H hi p;by_cases hlt:i<xs.length
 · refine .inr ⟨⟨xs,xs[i],q,by simp[hlt]⟩,Pv (i+1),fun σ' H' p'=>⟨xs.length-(i+1),by omega,rfl,hlt,p'⟩,fun x H' y=>?_⟩;obtain⟨e,y⟩:=y;subst e;exact hs i x σ _ (y xs q) p
 · have e:i=xs.length:=by omega
   subst e;exact .inl ⟨⟨xs,q,z07 _⟩,hd σ H p⟩
theorem zl0{lo:Int}{n:Nat}{g:TG}{tb:TS}{D:Ends}{σ:St}{H:Hp}(Pv:Nat->St->Hp->Prop)(h0:Pv 0 σ H)
   (hs:∀i σ H,i<n->Pv i σ H->g (.int (lo+i)) σ H fun σ2 H2=>tb { D with nx:=Pv (i+1),ct:=Pv (i+1),bk:=D.nx } σ2 H2) (hd:∀σ H,Pv n σ H->D.nx σ H) :
   ∃W:Nat->Nat->St->Hp->Prop,(∃m,W 0 m σ H)/\∀i m σ H,W i m σ H ->
     ((Itr lo n).stop i H/\D.nx σ H)\/((Itr lo n).go i H/\∃N:St->Hp->Prop,(∀σ' H',N σ' H'->∃m',m'<m/\W (i+1) m' σ' H')/\∀x H',(Itr lo n).yld i H x H'->g x σ H' fun σ2 H2=>tb { D with nx:=N,ct:=N,bk:=D.nx } σ2 H2):=by
 refine⟨fun i m σ H=>m=n-i/\i<=n/\Pv i σ H,⟨n,by simp,z1y _,h0⟩,?_⟩;rintro i m σ H ⟨rfl,hi,p⟩;by_cases hlt:i<n
 · refine .inr ⟨hlt,Pv (i+1),fun σ' H' p'=>⟨n-(i+1),by omega,rfl,hlt,p'⟩,fun x H' y=>?_⟩;obtain⟨e,y⟩:=y;subst e y;exact hs i σ _ hlt p
 · have e:i=n:=by omega
   subst e;exact .inl ⟨z07 _,hd σ H p⟩
abbrev R2:=V->V->Hp->VK->Prop
def OpR(X:Cx)(f:Value->Value->Sem Value)(r:R2):Prop :=
 ∀(pins:zAO) (s:Shared) (σ:St) (H:Hp) (x y:V) (v u:Value) (Q:VK),Inv X pins σ H s->RelV x v->RelV y u->r x y H Q ->
   wpAny (model X.prog X.w) X.A (f v u) (EP X pins σ Q) X.xe s
def CallR(X:Cx)(f:Value)(r:List V->Hp->VK->Prop):Prop :=
 ∀(pins:zAO) (s:Shared) (σ:St) (H:Hp) (xs:List V) (us:List Value) (Q:VK),Inv X pins σ H s->Vals xs us->r xs H Q ->
   wpAny (model X.prog X.w) X.A (call f us) (EP X pins σ Q) X.xe s
def tOp(r:R2)(ta tb:TE):TE:=fun σ H Q=>ta σ H fun x H1=>tb σ H1 fun y H2=>r x y H2 Q
def rI(C:Int->Int->Prop)(g:Int->Int->V):R2:=fun x y H Q=>∃i j,x=.int i/\y=.int j/\C i j/\Q (g i j) H
def rI0(g:Int->Int->V):R2:=fun x y H Q=>∃i j,x=.int i/\y=.int j/\Q (g i j) H
section
variable {X:Cx}{a b c:Expr}{ta tb tc:TE}{pos:Pos}
theorem zza(ha:PE X a ta)(hb:PE X b tb){pins:zAO}{s:Shared}{σ:St}{H:Hp}{R:V->V->Hp->Prop}(I:Inv X pins σ H s)
   (h:ta σ H fun x H1=>tb σ H1 fun y H2=>R x y H2) {Q:zVP}{f:Value->Value->Sem Value}
   (hf:∀v u s2 x y H2,Inv X pins σ H2 s2->RelV x v->RelV y u->R x y H2->wpAny (model X.prog X.w) X.A (f v u) Q X.xe s2) :
   wpAny (model X.prog X.w) X.A (eval a X.env) (fun v s₁=>wpAny (model X.prog X.w) X.A (eval b X.env) (fun u s₂=>wpAny (model X.prog X.w) X.A (f v u) Q X.xe s₂) X.xe s₁) X.xe s:=by
 refine thn (ha pins s σ H _ I h) fun v s1 ⟨x,H1,I1,r1,q1⟩=>?_;refine thn (hb pins s1 σ H1 _ I1 q1) fun u s2 ⟨y,H2,I2,r2,q2⟩=>?_;exact hf v u s2 x y H2 I2 r1 r2 q2
theorem zuf{op:Operator}{r:R2}(ho:OpR X (binaryOp op) r)(ha:PE X a ta)(hb:PE X b tb):PE X (.BinOp a op b pos) (tOp r ta tb):=by intro pins s σ H Q I h;exact wpAny_BinOp (zza ha hb I h fun v u s2 x y H2 I2 rx ry q=>ho pins s2 σ H2 x y v u Q I2 rx ry q)
theorem opI{f:Value->Value->Sem Value}{C:Int->Int->Prop}{g:Int->Int->Int}
   (rule:∀(i j:Int) (t u:Tok) (s:Shared) (Q:zVP) (E:zVP),C i j->Q (.int (g i j) s.toks) { s with toks:=s.toks+1 }->wpAny (model X.prog X.w) X.A (f (.int i t) (.int j u)) Q E s) :
   OpR X f (rI C fun i j=>.int (g i j)):=by
 intro pins s σ H x y v u Q I rx ry h;obtain⟨i,j,rfl,rfl,hc,q⟩:=h;obtain⟨t,rfl⟩:=rx;obtain⟨t',rfl⟩:=ry;exact rule i j t t' s _ _ hc ⟨.int (g i j),H,I.tok _,⟨_,rfl⟩,q⟩
theorem zzs{f:Value->Value->Sem Value}{g:Int->Int->Int}
   (rule:∀(i j:Int) (t u:Tok) (s:Shared) (Q:zVP) (E:zVP),Q (.int (g i j) s.toks) { s with toks:=s.toks+1 }->wpAny (model X.prog X.w) X.A (f (.int i t) (.int j u)) Q E s) :
   OpR X f (rI0 fun i j=>.int (g i j)):=by
 intro pins s σ H x y v u Q I rx ry h;obtain⟨i,j,rfl,rfl,q⟩:=h;obtain⟨t,rfl⟩:=rx;obtain⟨t',rfl⟩:=ry;exact rule i j t t' s _ _ ⟨.int (g i j),H,I.tok _,⟨_,rfl⟩,q⟩
theorem zwx{f:Value->Value->Sem Value}{g:Int->Int->Bool}
   (rule:∀(i j:Int) (t u:Tok) (s:Shared) (Q:zVP) (E:zVP),Q (.bool (g i j)) s->wpAny (model X.prog X.w) X.A (f (.int i t) (.int j u)) Q E s) :
   OpR X f (rI0 fun i j=>.bl (g i j)):=by
 intro pins s σ H x y v u Q I rx ry h;obtain⟨i,j,rfl,rfl,q⟩:=h;obtain⟨t,rfl⟩:=rx;obtain⟨t',rfl⟩:=ry;exact rule i j t t' s _ _ ⟨.bl (g i j),H,I,rfl,q⟩
def z01(i j:Int):Prop:=0<j/\j<1073741824
def CMul(i j:Int):Prop:=(-(2^64)<i/\i<2^64)\/(-(2^64)<j/\j<2^64)
theorem CMul.ok{i j:Int}(h:CMul i j):IntMulOk i j:=by
 rcases h with⟨h1,h2⟩ | ⟨h1,h2⟩
 · exact .of_left (intBits_le_64 h1 h2)
 · exact .of_right (intBits_le_64 h1 h2)
theorem op_add:OpR X (binaryOp .Add) (rI0 fun i j=>.int (i+j)):=zzs fun _ _ _ _ _ _ _ q=>add_int q
theorem zuq:OpR X (binaryOp .Sub) (rI0 fun i j=>.int (i-j)):=zzs fun _ _ _ _ _ _ _ q=>sub_int q
theorem zrf:OpR X (binaryOp .FloorDiv) (rI z01 fun i j=>.int (i/j)):=opI fun i j _ _ _ _ _ hc q=>by have h1:(0:Int)<j:=hc.1;have h2:j<1073741824:=hc.2;exact floordiv_int (by omega) (by rw[Int.fdiv_eq_ediv_of_nonneg i (by omega)];exact q) (.inl (PyProof.noPylong_small (by omega)))
theorem zur:OpR X (binaryOp .Mod) (rI (fun _ j=>0<j) fun i j=>.int (i%j)):=opI fun i j _ _ _ _ _ hc q=>by have h1:(0:Int)<j:=hc;exact mod_int' (by omega) (by rw[Int.fmod_eq_emod_of_nonneg i (by omega)];exact q)
end
section
variable {X:Cx}{a b c:Expr}{ta tb tc:TE}{pos:Pos}
theorem zpk{pins:zAO}{σ:St}{H:Hp}{s:Shared}{Q:VK}{k k':Bool}(I:Inv X pins σ H s)(q:Q (.bl k) H)(e:k=k'):EP X pins σ Q (.bool k') s:=by subst e;exact⟨.bl k,H,I,rfl,q⟩
theorem zre:OpR X (compareOp .Lt) (rI0 fun i j=>.bl (decide (i<j))):=zwx fun _ _ _ _ _ _ _ q=>lt_int q
theorem zja:OpR X (compareOp .LtE) (rI0 fun i j=>.bl (decide (i<=j))):=zwx fun _ _ _ _ _ _ _ q=>le_int q
theorem zx5:OpR X (compareOp .Gt) (rI0 fun i j=>.bl (decide (j<i))):=zwx fun _ _ _ _ _ _ _ q=>gt_int q
theorem zx6:OpR X (compareOp .GtE) (rI0 fun i j=>.bl (decide (j<=i))):=zwx fun _ _ _ _ _ _ _ q=>ge_int q
theorem op_isN:OpR X (compareOp .Is) (fun x y H Q=>y=.non/\Q (.bl (decide (x=.non))) H):=by
 intro pins s σ H x y v u Q I rx ry h;obtain⟨rfl,q⟩:=h;cases ry;refine is_none_gen (zpk I q ?_);cases x<;>first
   | (cases rx;rfl)
   | (obtain⟨t,rfl⟩:=rx;rfl)
theorem op_notN:OpR X (compareOp .IsNot) (fun x y H Q=>y=.non/\Q (.bl (!decide (x=.non))) H):=by
 intro pins s σ H x y v u Q I rx ry h;obtain⟨rfl,q⟩:=h;cases ry;refine isnot_none_gen (zpk I q ?_);cases x<;>first
   | (cases rx;rfl)
   | (obtain⟨t,rfl⟩:=rx;rfl)
theorem OpR.or{f:Value->Value->Sem Value}{r r':R2}(h:OpR X f r)(h':OpR X f r'):OpR X f (fun x y H Q=>r x y H Q\/r' x y H Q):=by
 intro pins s σ H x y v u Q I rx ry q;rcases q with q | q
 · exact h pins s σ H x y v u Q I rx ry q
 · exact h' pins s σ H x y v u Q I rx ry q
theorem zah(b:Expr){op:CmpOp}(h:op≠.In:=by decide)(h2:op≠.NotIn:=by decide):behindInMarks op b=false:=by
 have e1:(op==CmpOp.In)=false:=by cases op<;>first | rfl | exact absurd rfl h
 have e2:(op==CmpOp.NotIn)=false:=by cases op<;>first | rfl | exact absurd rfl h2
 cases b<;>simp[behindInMarks,e1,e2]
theorem zq9{op:CmpOp}{r:R2}(ho:OpR X (compareOp op) r)(ha:PE X a ta)(hb:PE X b tb)(hm:behindInMarks op b=false):PE X (.Compare a [op] [b] pos) (tOp r ta tb):=by intro pins s σ H Q I h;exact wpAny_Compare1 (zza ha hb I h fun v u s2 x y H2 I2 rx ry q=>ho pins s2 σ H2 x y v u Q I2 rx ry q) hm
def zm3(t:TE):TT:=fun σ H Q=>t σ H fun x H'=>∃k,x=.bl k/\Q k H'
theorem zqz{op:CmpOp}{r:R2}(ho:OpR X (compareOp op) r)(ha:PE X a ta)(hb:PE X b tb)(hm:behindInMarks op b=false):PT X (.Compare a [op] [b] pos) (zm3 (tOp r ta tb)):=by
 intro pins s σ H Q I h;refine wpAny_isTrue_Compare1 (thn (ha pins s σ H _ I h) fun v s1 ⟨x,H1,I1,r1,q1⟩=>thn (hb pins s1 σ H1 _ I1 q1) fun u s2 ⟨y,H2,I2,r2,q2⟩=>
   thn (ho pins s2 σ H2 x y v u _ I2 r1 r2 q2) fun c s3 ⟨z,H3,I3,r3,k,e,q3⟩=>?_) hm
 subst e;cases r3;exact z2e ⟨H3,I3,q3⟩
def zoy(r r':R2)(ta tb tc:TE):TE:=fun σ H Q=>ta σ H fun x H1=>tb σ H1 fun y H2=>r x y H2 fun z H3=>∃k,z=.bl k /\
 (if k=true then tc σ H3 fun w' H4=>r' y w' H4 Q else Q (.bl false) H3)
theorem znc{op op':CmpOp}{r r':R2}(ho:OpR X (compareOp op) r)(ho':OpR X (compareOp op') r')(ha:PE X a ta)(hb:PE X b tb)(hc:PE X c tc)
   (hm:lastMarks [op,op'] [b,c]=false:=by with_unfolding_all rfl):PT X (.Compare a [op,op'] [b,c] pos) (zm3 (zoy r r' ta tb tc)):=by
 intro pins s σ H Q I h;refine isTrue_chain (thn (ha pins s σ H _ I h) fun v s1 ⟨x,H1,I1,r1,q1⟩=>test_link (thn (hb pins s1 σ H1 _ I1 q1) fun u s2 ⟨y,H2,I2,r2,q2⟩=>
   thn (ho pins s2 σ H2 x y v u _ I2 r1 r2 q2) fun d s3 ⟨z,H3,I3,r3,k,e,q3⟩=>?_)) hm
 subst e;cases r3;refine z2e ?_;cases k with
 | false=>
   obtain⟨k',e',q'⟩:=q3;cases e';exact ite_ff ⟨H3,I3,q'⟩
 | true=>
   refine ite_tt (test_last (thn (hc pins s3 σ H3 _ I3 q3) fun w' s4 ⟨z',H4,I4,r4,q4⟩=>thn (ho' pins s4 σ H4 y z' u w' _ I4 r2 r4 q4) fun d' s5 ⟨z2,H5,I5,r5,k2,e2,q5⟩=>?_));subst e2;cases r5;exact z2e ⟨H5,I5,q5⟩
theorem zfn:(sizeLine:Nat)<2^63:=by rw[z14];decide
theorem op_add_str:OpR X (binaryOp .Add) (fun x y H Q=>∃i j,x=.str i/\y=.str j/\i.length+j.length<=sizeLine/\Q (.str (i++j)) H):=by intro pins s σ H x y v u Q I rx ry h;obtain⟨i,j,rfl,rfl,hz,q⟩:=h;obtain⟨t,rfl⟩:=rx;obtain⟨t',rfl⟩:=ry;exact add_str (fun t' tk=>⟨.str (i++j),H,I.tok _,⟨_,rfl⟩,q⟩) hz
theorem zjz{x:V}{us:List Value}(r:Vals [x] us):∃u,us=[u]/\RelV x u:=by
 cases r with
 |cons r1 r2=>cases r2;exact⟨_,rfl,r1⟩
theorem zxb{x y:V}{us:List Value}(r:Vals [x,y] us):∃u w',us=[u,w']/\RelV x u/\RelV y w':=by
 cases r with
 | cons r1 r2=>
   cases r2 with
   |cons r3 r4=>cases r4;exact⟨_,_,rfl,r1,r3⟩
theorem zok:CallR X (.builtin "abs") (fun xs H Q=>∃i,xs=[.int i]/\Q (.int (if i<0 then -i else i)) H):=by intro pins s σ H xs us Q I r h;obtain⟨i,rfl,q⟩:=h;obtain⟨u,rfl,t,rfl⟩:=zjz r;exact call_abs_int fun u tk=>⟨.int (if i<0 then -i else i),H,I.tok _,⟨_,rfl⟩,q⟩
theorem zmd(hc:X.calm=true):CallR X (.builtin "max") (fun xs H Q=>∃i j,xs=[.int i,.int j]/\Q (.int (if j>i then j else i)) H):=by
 intro pins s σ H xs us Q I r h;obtain⟨i,j,rfl,q⟩:=h;obtain⟨u,w',rfl,⟨t,rfl⟩,⟨t',rfl⟩⟩:=zxb r;refine max_two_ints (I.ok.hd hc) fun h' tk k=>⟨_,H,I.kept k,?_,q⟩
 by_cases hj:j>i
 · rw[z1t hj,z1t hj];exact⟨_,rfl⟩
 · rw[z10 hj,z10 hj];exact⟨_,rfl⟩
end
structure ObjM (h:Heap) (x dx C:Addr) (mA:zMg):Prop where
 obj:h.get? x=some (PySem.W.instObj C dx)
 ns:h.Ns1 dx mA
 ne:dx≠x
theorem zla{h:Heap}{dx:Addr}{mA:zMg}(n:h.Ns1 dx mA):∃od,h.get? dx=some od/\∀name,PySem.W.lookIn name od=some (mA name):=by
 obtain⟨o,es,ep,ho,hd,hk,_,hm⟩:=n;refine⟨o,ho,fun name=>?_⟩;have e:=hm name;unfold nsFind findBy at e;rw[<-Array.find?_toList]at e;unfold PySem.W.lookIn;rw[hd];dsimp only;split
 · rename_i y q;rw[q]at e;exact z2f some e
 · rename_i q;rw[q]at e;have a:es.toList.any (·.refKey)=false:=by rw[List.any_eq_false];intro y hy;obtain⟨z,t,hkey⟩:=hk y (Array.mem_toList_iff.mp hy);simp[DictEntry.refKey,hkey]
   have a':¬ es.toList.any (·.refKey)=true:=by rw[a];exact z16
   rw[z10 a'];exact z2f some e
theorem ObjM.look{h:Heap}{x dx C:Addr}{mA:zMg}(I:ObjM h x dx C mA):∃od,PySem.W.InstAt h x (PySem.W.instObj C dx) C (some od)/\∀name,PySem.W.lookIn name od=some (mA name) :=
 let⟨od,ho,hl⟩:=zla I.ns
 ⟨od,⟨I.obj,rfl,rfl,ho⟩,hl⟩
section
variable {prog:Program}{w:World}{A:Around}{E:zVP}{s:Shared}{K:zFr}{x dx C f:Addr}{mA:zMg}{name:Str}{v:Value}
theorem zrz{expr:Bool}{Q:zVP}(X:K.In s.heap)(I:ObjM s.heap x dx C mA)(hg:PySem.W.plainGet K C name=true)(hh:PySem.W.hasDictIn K C=true)
   (ha:PySem.W.findIn K (.ref C) name=some none) (hv:mA name=some v) (hv':PySem.W.handedIn v=true) (h:Q v { s with toks:=s.toks+1 }) :
   wpAny (model prog w) A (getAttr (.ref x) name expr) Q E s:=by
 obtain⟨od,J,hl⟩:=I.look;exact PySem.W.get_value X J (z32 hg).1 (PySem.W.findObj_own hh ha rfl (by rw[hl,hv])) hv' h
theorem znx{pl:Sem Bool}{Q:Value×List Value->Shared->Prop}(X:K.In s.heap)(I:ObjM s.heap x dx C mA)(hg:PySem.W.plainGet K C name=true)
   (hf:PySem.W.findIn K (.ref C) name=some (some (.ref f))) (ht:PySem.W.isFn K (.ref f)=true) (hv:mA name=none) (h:Q (.ref f,[.ref x]) s) :
   wpAny (model prog w) A (getMethod (.ref x) name pl) Q E s:=by
 obtain⟨od,J,hl⟩:=I.look;exact PySem.W.method_fn X J (z32 hg).1 (z32 hg).2 hf (z3r.mp ht) (by show(PySem.W.lookIn name od).map (·.isSome)=some false;rw[hl,hv];rfl) h
theorem zqu{ns:List Str}{Q:Unit->Shared->Prop}(X:K.In s.heap)(I:ObjM s.heap x dx C mA)
   (hs:PySem.W.findIn K (.ref C) "__setattr__"=some (some (.builtin "object.__setattr__"))) (hp:PySem.W.plainOver K C=true) (ht:PySem.W.takerIn K C name=some none) (hh:PySem.W.hasDictIn K C=true)
   (hw:PySem.Within mA ns) (hsz:ns.length<=sizeLine)
   (h:∀h',ObjM h' x dx C (fun y=>if y=name then some v else mA y)->Heap.SameBut dx s.heap h'->Q () { s with heap:=h',toks:=s.toks+2 }) :
   wpAny (model prog w) A (setAttr (.ref x) name v) Q E s:=by
 obtain⟨od,J,hl⟩:=I.look;refine PySem.W.set_plain X J hs (PySem.W.osa_open (s:={ s with toks:=s.toks+1 }) (r:=none) X J hp ht fun b=>?_);obtain⟨cd,hc,hd'⟩:=PySem.W.any_some hh;have hx:s.heap.get? x=some ⟨.ref C,some dx,.plain,#[]⟩:=I.obj;refine z1v (z2p (z1v (z1v (wpAny_loadPart hx (z1v (PySem.W.Looks.here (s:={ s with toks:=s.toks+1 }) (PySem.W.looks_clsIn X hc) ?_))))));rw[hd'];refine z2p (a:=some dx) (z1v (z2p (z1v ?_)));refine wpAny_nsSet1 (s:={ s with toks:=s.toks+1 }) I.ns fun h' hn2 hs2=>?_;obtain⟨oD,esD,epD,hoD,hdD,hcD⟩:=hn2.count (PySem.Within.cons name v hw);refine z1v (wpAny_lookBehind hoD (by rw[hdD];exact pastItsLine_dict (z1u hcD (by rw[List.length_cons];omega))) ?_);exact z2p (h _ ⟨(hs2.2 _ (z3v I.ne)).trans I.obj,hn2,I.ne⟩ hs2)
theorem znr{R:Result->Shared->Prop}{vs:List Value}{kw:List (Str×Value)}(X:K.In s.heap)(hm:PySem.W.makesIn K C=true)
   (hi:PySem.W.findIn K (.ref C) "__init__"=some (some (.ref f))) (hf:PySem.W.typeIn K (.ref f)=some (.type "function"))
   (h:codeAny (model prog w) (A.under (.builtin "type.__call__" ⟨.ref C::vs,kw⟩)) (.call (.ref f) ⟨.ref (s.heap.objs.size+1)::vs,kw⟩) (PySem.W.InitBack (s.heap.objs.size+1) R)
     { s with heap:=(s.heap.push PySem.W.emptyDict).push (PySem.W.instObj C s.heap.objs.size) }) :
   codeAny (model prog w) A (.call (.ref C) ⟨vs,kw⟩) R s:=by
 obtain⟨hh,g,d,t,os⟩:=s;exact PySem.W.make_core (PySem.W.makes_of X hm) (PySem.W.looks_findIn X hi) (fun self=>PySem.W.bind_fn X self hf) (.inl rfl) h
end
def zc7(f:Str)(v:V):List (Str×V)->List (Str×V)
 | []=>[(f,v)]
 | (g,x)::r=>if g=f then (g,v)::r else (g,x)::zc7 f v r
theorem zcn(f g:Str)(v:V):∀fs:List (Str×V),(zc7 f v fs).lookup g=if g=f then some v else fs.lookup g
 | []=>by
   show List.lookup g [(f,v)]=_;by_cases h:g=f
   · have hb:(g==f)=true:=z3r.mpr h;simp only[List.lookup,hb,z1t h]
   · have hb:(g==f)=false:=z2z.mpr h;simp only[List.lookup,hb,z10 h]
 | (k,x)::r=>by
   have ih:=zcn f g v r;rw[show zc7 f v ((k,x)::r)=(if k=f then (k,v)::r else (k,x)::zc7 f v r)from rfl];by_cases hk:k=f
   · rw[z1t hk];by_cases h:g=k
     · have hb:(g==k)=true:=z3r.mpr h;simp only[List.lookup,hb,z1t (h.trans hk)]
     · have hb:(g==k)=false:=z2z.mpr h;simp only[List.lookup,hb,z10 (fun e:g=f=>h (e.trans hk.symm))]
   · rw[z10 hk];by_cases h:g=k
     · have hb:(g==k)=true:=z3r.mpr h;simp only[List.lookup,hb,z10 (fun e:g=f=>hk (h.symm.trans e))]
     · have hb:(g==k)=false:=z2z.mpr h;simp only[List.lookup,hb];exact ih
theorem zcr(f:Str)(v:V):∀fs:List (Str×V),f∈(zc7 f v fs).map (·.1)/\∀g,g∈fs.map (·.1)->g∈(zc7 f v fs).map (·.1)
 | []=>⟨by simp[zc7],fun g h=>by simp at h⟩
 | (k,x)::r=>by
   obtain⟨i1,i2⟩:=zcr f v r;rw[show zc7 f v ((k,x)::r)=(if k=f then (k,v)::r else (k,x)::zc7 f v r)from rfl];by_cases hk:k=f
   · rw[z1t hk];subst hk;exact⟨by simp,fun g h=>by simpa using h⟩
   · rw[z10 hk];refine⟨?_,fun g h=>?_⟩
     · rw[z1g];exact z09 _ i1
     · rw[z1g]at h ⊢;rcases z1e.mp h with e | e
       · exact z1e.mpr (.inl e)
       · exact z09 _ (i2 g e)
theorem zcq(f:Str)(v:V):∀fs:List (Str×V),(zc7 f v fs).length<=fs.length+1
 | []=>by simp[zc7]
 | (k,x)::r=>by
   have ih:=zcq f v r;rw[show zc7 f v ((k,x)::r)=(if k=f then (k,v)::r else (k,x)::zc7 f v r)from rfl];by_cases hk:k=f
   · rw[z1t hk,List.length_cons,List.length_cons];omega
   · rw[z10 hk,List.length_cons,List.length_cons];omega
theorem RelO.some_of{v:V}{o:Option Value}(r:RelO (some v) o):∃u,o=some u/\RelV v u:=by
 cases o with
 |none=>exact(show False from r).elim
 |some u=>exact⟨u,rfl,r⟩
theorem RelO.none_of{o:Option Value}(r:RelO none o):o=none:=by
 cases o with
 |none=>rfl
 |some u=>exact(show False from r).elim
theorem zlu{v:V}{u:Value}(r:RelV v u):PySem.W.handedIn u=true:=by
 cases v with
 |non=>cases(show u=Value.none from r);rfl
 |bl b=>cases(show u=Value.bool b from r);rfl
 |int i=>obtain⟨t,e⟩:=(show ∃t,u=Value.int i t from r);cases e;rfl
 |str x=>obtain⟨t,e⟩:=(show ∃t,u=Value.str x t from r);cases e;rfl
 |byt b=>obtain⟨t,e⟩:=(show ∃t,u=Value.bytes b t from r);cases e;rfl
 |flt b=>obtain⟨t,e⟩:=(show ∃t,u=Value.float b t from r);cases e;rfl
 |ref a=>cases(show u=Value.ref a from r);rfl
 |ty n=>cases(show u=Value.type n from r);rfl
section
variable {P:Program}{w:World}{H H':Hp}{h h':Heap}{a C dx:Addr}{fs fs':List (Str×V)}
theorem zg0(hok:HOk P w H h)(e:H a=some (.ins C dx fs)):∃mA,ObjM h a dx C mA/\(∀f,RelO (fs.lookup f) (mA f))/\PySem.Within mA (fs.map (·.1))/\fs.length<=1000/\H dx=some (.own a):=by
 obtain⟨d,z,ne,ob,mA,n,r,q⟩:=(show ObjOk P w H h a (.ins C dx fs)from hok a _ e)
 exact⟨mA,⟨ob,n,ne⟩,r,q,z,d⟩
end
structure Cls (K:zFr) (C:Addr):Prop where
 pg:PySem.W.plainGet K C Str.empty=true
 hd:PySem.W.hasDictIn K C=true
 po:PySem.W.plainOver K C=true
 sa:PySem.W.findIn K (.ref C) "__setattr__"=some (some (.builtin "object.__setattr__"))
theorem Cls.get{K:zFr}{C:Addr}(c:Cls K C)(f:Str):PySem.W.plainGet K C f=true:=c.pg
def NoAttr(K:zFr)(C:Addr)(f:Str):Prop:=PySem.W.findIn K (.ref C) f=some none
theorem NoAttr.taker{K:zFr}{C:Addr}{f:Str}(n:NoAttr K C f):PySem.W.takerIn K C f=some none:=by unfold PySem.W.takerIn;rw[show PySem.W.findIn K (.ref C) f=some none from n];rfl
structure Meth (K:zFr) (C:Addr) (m:Str) (f:Addr):Prop where
 at_:PySem.W.findIn K (.ref C) m=some (some (.ref f))
 fn:PySem.W.isFn K (.ref f)=true
 kp:PySem.W.keepIn K (.ref f)=true
section
variable {X:Cx}{pins:zAO}{σ:St}{H:Hp}{s:Shared}{a C dx:Addr}{fs:List (Str×V)}{f:Str}{v:V}{A:Around}{E:zVP}
theorem zjg{b:Bool}{Q:zVP}(I:Inv X pins σ H s)(e:H a=some (.ins C dx fs))(c:Cls X.K C)(n:NoAttr X.K C f)(l:fs.lookup f=some v)
   (h:∀u s',Inv X pins σ H s'->RelV v u->Q u s'):wpAny (model X.prog X.w) A (getAttr (.ref a) f b) Q E s:=by
 obtain⟨mA,O,r,_,_,_⟩:=zg0 I.hok e;obtain⟨u,hu,ru⟩:=RelO.some_of (v:=v) (o:=mA f) (by rw[<-l];exact r f);exact zrz I.kIn O (c.get f) c.hd n hu (zlu ru) (h u _ (I.tok _) ru)
theorem zjf{m:Str}{g:Addr}{pl:Sem Bool}{Q:Value×List Value->Shared->Prop}(I:Inv X pins σ H s)(e:H a=some (.ins C dx fs))(c:Cls X.K C)(k:Meth X.K C m g)(l:fs.lookup m=none)
   (h:Q (.ref g,[.ref a]) s):wpAny (model X.prog X.w) A (getMethod (.ref a) m pl) Q E s:=by
 obtain⟨mA,O,r,_,_,_⟩:=zg0 I.hok e;have hn:mA m=none:=RelO.none_of (by rw[<-l];exact r m);exact znx I.kIn O (c.get m) k.at_ k.fn hn h
theorem zi6{y:V}{u:Value}{Q:Unit->Shared->Prop}(I:Inv X pins σ H s)(e:H a=some (.ins C dx fs))(c:Cls X.K C)(n:NoAttr X.K C f)(hl:fs.length<1000)(ry:RelV y u)
   (h:∀s',Inv X pins σ (upd H a (.ins C dx (zc7 f y fs))) s'->Q () s'):wpAny (model X.prog X.w) A (setAttr (.ref a) f u) Q E s:=by
 obtain⟨mA,O,r,wi,_,ho⟩:=zg0 I.hok e;have hz:(fs.map (·.1)).length<=sizeLine:=by rw[z1q,z14];omega
 refine zqu I.kIn O c.sa c.po n.taker c.hd wi hz fun h' O' sb=>h _ ?_;have hd:∃o,h'.get? dx=some o:=let⟨o,_,_,e',_⟩:=O'.ns;⟨o,e'⟩;refine I.write (x:=a) (e:=dx) (by rw[e];exact True.intro) (.inr ho) (fun b q hb z=>(sb.2 b hb).trans z) hd ?_;refine⟨by rw[qg O.ne];exact ho,?_,O.ne,O'.obj,_,O'.ns,fun g=>?_,fun g hg=>?_⟩
 · have:=zcq f y fs;omega
 · show RelO ((zc7 f y fs).lookup g) (if g=f then some u else mA g);rw[zcn];by_cases q:g=f
   · rw[z1t q,z1t q];exact ry
   · rw[z10 q,z10 q];exact r g
 · by_cases q:g=f
   · rw[q];exact(zcr f y fs).1
   · refine(zcr f y fs).2 g (wi g fun z=>hg ?_);show(if g=f then some u else mA g)=none;rw[z10 q];exact z
theorem Inv.made(I:Inv X pins σ H s):Inv X pins σ (upd (upd H s.heap.objs.size (.own (s.heap.objs.size+1))) (s.heap.objs.size+1) (.ins C s.heap.objs.size []))
   { s with heap:=(s.heap.push PySem.W.emptyDict).push (PySem.W.instObj C s.heap.objs.size) }:=by
 have e1:(s.heap.push PySem.W.emptyDict).get? s.heap.objs.size=some PySem.W.emptyDict:=z1w s.heap rfl;have e2:((s.heap.push PySem.W.emptyDict).push (PySem.W.instObj C s.heap.objs.size)).get? (s.heap.objs.size+1)=some (PySem.W.instObj C s.heap.objs.size):=by
   have:=z1w (s.heap.push PySem.W.emptyDict) (o:=PySem.W.instObj C s.heap.objs.size) rfl
   rwa [Heap.size_push]at this
 have e3:(s.heap.push PySem.W.emptyDict).Ns s.heap.objs.size (fun _=>none):=⟨PySem.W.emptyDict,#[],_,e1,rfl,(fun e he=>absurd he (by simp)),fun _=>rfl⟩
 have I1:=I.laid (a:=s.heap.objs.size) (o:=.own (s.heap.objs.size+1)) (h':=s.heap.push PySem.W.emptyDict) (t':=s.toks) (fun b u q=>z1i _ q) (z07 _) ⟨_,e1⟩;refine I1.laid (a:=s.heap.objs.size+1) (o:=.ins C s.heap.objs.size []) (t':=s.toks) (fun b u q=>z1i _ q) (Nat.le_of_eq (Heap.size_push _ _)) ?_;have ne:s.heap.objs.size≠s.heap.objs.size+1:=z1o (z3b _);refine⟨by rw[qg ne,ql],z1y _,ne,e2,fun _=>none,(Heap.Ns1.of_empty e3).at fun o q=>z1i _ q,fun _=>True.intro,fun y hy=>absurd rfl hy⟩
theorem zsr{prog:Program}{w:World}{env:Env}{e:Expr}{f:Str}{pos:Pos}{s:Shared}{Q:zVP}(hb:attributeBase e f env (eval e env)=eval e env)
   (h:wpAny (model prog w) A (eval e env) (fun o s₁=>wpAny (model prog w) A (getAttr o f true) Q E s₁) E s):wpAny (model prog w) A (eval (.Attribute e f pos) env) Q E s :=
 Attribute_any_ h (by rw[arm_eval_Attribute,hb])
end
def z0g(K:zFr)(ta:TE)(f:Str):TE:=fun σ H Q=>ta σ H fun x H1=>∃a C dx fs v,x=.ref a/\H1 a=some (.ins C dx fs)/\Cls K C/\NoAttr K C f/\fs.lookup f=some v/\Q v H1
def z0l(K:zFr)(ta tv:TE)(f:Str):TS:=fun D σ H=>tv σ H fun y H1=>ta σ H1 fun x H2=>∃a C dx fs,x=.ref a/\H2 a=some (.ins C dx fs)/\Cls K C/\NoAttr K C f/\fs.length<1000 /\
 D.nx σ (upd H2 a (.ins C dx (zc7 f y fs)))
section
variable {X:Cx}{o e value:Expr}{f:Str}{pos pos' tpos:Pos}{ta tv:TE}
theorem zuk(he:PE X e ta)(hb:attributeBase e f X.env (eval e X.env)=eval e X.env):PE X (.Attribute e f pos) (z0g X.K ta f):=by intro pins s σ H Q I h;refine zsr hb (thn (he pins s σ H _ I h) fun u s1 ⟨x,H1,I1,rx,a,C,dx,fs,v,ex,ea,c,n,l,q⟩=>?_);subst ex;obtain rfl:u=Value.ref a:=rx;exact zjg I1 ea c n l fun u' s2 I2 ru=>⟨v,H1,I2,ru,q⟩
theorem zt8(ha:PE X o ta)(hv:PE X value tv)(hs:swapsWith value (some (.Attribute o f pos')) pos.line X.env=pure false):PS X (.Assign [.Attribute o f pos'] value pos) (z0l X.K ta tv f):=by intro pins s σ H D I h;refine plainObj_wpAny_Assign_Attribute (thn (hv pins s σ H _ I h) fun u s1 ⟨y,H1,I1,ry,q⟩=>thn (ha pins s1 σ H1 _ I1 q) fun ov s2 ⟨x,H2,I2,rx,a,C,dx,fs,ex,ea,c,n,l,q2⟩=>?_) hs;subst ex;obtain rfl:ov=Value.ref a:=rx;exact zi6 I2 ea c n l ry fun s3 I3=>⟨σ,_,I3,q2⟩
end
structure Room (k:Nat) (A:Around):Prop where
 hd:A.handled=none
 dp:A.depth+3*k+5<recursionLimit
 un:A.units+16*k+200<cLine
theorem Room.mono{j k:Nat}{A:Around}(r:Room k A)(h:j<=k):Room j A:=⟨r.hd,by have:=r.dp;omega,by have:=r.un;omega⟩
theorem Room.deeper{k:Nat}{A:Around}(r:Room (k+1) A)(env:Env):Room k (A.deeper env) :=
 ⟨r.hd,by have:=r.dp;show A.depth+1+3*k+5<_;omega,by have:=r.un;show A.units+3+16*k+200<_;omega⟩
theorem zjc{A:Around}{C:Addr}{us:List Value}{kw:List (Str×Value)}:(A.under (.builtin "type.__call__" ⟨.ref C::us,kw⟩)).depth=A.depth+1:=by
 first | rfl | simp[Around.under,Code.weight,Code.isCreation,Code.isGuard,Code.isCaller,Code.frames,Code.isFrame,guardIds]
theorem zjb{A:Around}{C:Addr}{us:List Value}{kw:List (Str×Value)}:(A.under (.builtin "type.__call__" ⟨.ref C::us,kw⟩)).units=A.units+1:=by
 first | rfl | simp[Around.under,Code.cUnits,Code.frames,Code.isFrame]
theorem Room.make{k:Nat}{A:Around}(r:Room (k+1) A)(C:Addr)(us:List Value)(kw:List (Str×Value)):Room k (A.under (.builtin "type.__call__" ⟨.ref C::us,kw⟩)) :=
 ⟨r.hd,by have:=r.dp;rw[zjc];omega,by have:=r.un;rw[zjb];omega⟩
theorem Room.depth{k:Nat}{A:Around}(r:Room k A):A.depth<recursionLimit:=by have:=r.dp;omega
def zzm:TA:=fun _ H Q=>Q [] H
def zxk(ta:TE)(tr:TA):TA:=fun σ H Q=>ta σ H fun x H1=>tr σ H1 fun xs H2=>Q (x::xs) H2
section
variable {X:Cx}{e:Expr}{es:List Expr}{te:TE}{t:TA}{pos:Pos}
theorem zup:PA X [] zzm:=fun _ _ _ _ H Q I h=>Calls.spliced_nil ⟨[],H,I,.nil,h⟩
theorem zrc(ha:PE X e te)(hr:PA X es t)(hs:starEach (e::es) X.env=(false,eval e X.env)::starEach es X.env:=by rfl):PA X (e::es) (zxk te t):=by intro pos pins s σ H Q I h;rw[hs];show wpAny _ _ (spliced ((false,eval e X.env)::backTo pos (starEach es X.env))) _ _ s;refine z35 (thn (ha pins s σ H _ I h) fun u s1 ⟨x,H1,I1,r1,q1⟩=>?_);exact thn (hr pos pins s1 σ H1 _ I1 q1) fun us s2 ⟨xs,H2,I2,r2,q2⟩=>⟨x::xs,H2,I2,.cons r1 r2,q2⟩
def zz9(t:TA):TE:=fun σ H Q=>t σ H fun xs H1=>xs.length<=sizeLine/\∀p,H1 p=none->Q (.ref p) (upd H1 p (.tup xs))
def z0d(t:TA):TE:=fun σ H Q=>t σ H fun xs H1=>xs.length<=sizeLine/\∀p,H1 p=none->Q (.ref p) (upd H1 p (.lst xs))
theorem zue{x1}(h:PA X es t):PE X (.Tuple es x1 pos) (zz9 t):=by intro pins s σ H Q I hq;refine wpAny_Tuple_spliced (thn (h pos pins s σ H _ I hq) fun us s1 ⟨xs,H1,I1,r,z,q⟩=>⟨by rw[<-r.length];exact z,?_⟩);have hf:H1 s1.heap.objs.size=none:=I1.hok.fresh (z07 _);refine⟨.ref s1.heap.objs.size,upd H1 s1.heap.objs.size (.tup xs),I1.laid (t':=s1.toks) (fun b u e=>z1i _ e) (z07 _) ?_,rfl,q _ hf⟩;exact⟨z,us,r,⟨_,z1w _ rfl,rfl,_,rfl⟩⟩
theorem zpa(h:PA X es t):PE X (.List es pos) (z0d t):=by intro pins s σ H Q I hq;refine wpAny_List_spliced (thn (h pos pins s σ H _ I hq) fun us s1 ⟨xs,H1,I1,r,z,q⟩=>⟨by rw[<-r.length];exact z,?_⟩);have hf:H1 s1.heap.objs.size=none:=I1.hok.fresh (z07 _);refine⟨.ref s1.heap.objs.size,upd H1 s1.heap.objs.size (.lst xs),I1.laid (t':=s1.toks) (fun b u e=>z1i _ e) (z07 _) ?_,rfl,q _ hf⟩;exact⟨z,us,0,r,z1w _ rfl⟩
end
abbrev Sp:=List V->Hp->VK->XK->Prop
abbrev CXT:=List Env->Hp->Shared->XK->zVP
structure Env0 (P:Program) (w:World) (K:zFr) (mg:zMg) (base:Heap) (A:Around) (outer:List Env) (s:Shared) (H:Hp):Prop where
 frames:A.frames=some outer
 mod:Mod K mg base
 bs:∀b o,base.get? b=some o->s.heap.get? b=some o/\H b=none
 bsz:base.objs.size<=s.heap.objs.size
 funs:s.heap.FunFrames base outer
 frf:∀b∈frs outer,H b=none
 hok:HOk P w H s.heap
 bare:AllBare s.gens
def CE(outer:List Env)(P:Program)(w:World)(H:Hp)(s:Shared)(Q:VK)(u:Value)(s':Shared):Prop :=
 ∃v H',s'.os=s.os/\AllBare s'.gens/\Un (frs outer) [] H H' s.heap s'.heap/\HOk P w H' s'.heap/\RelV v u/\Q v H'
def CR(CX:CXT)(outer:List Env)(P:Program)(w:World)(H:Hp)(s:Shared)(Q:VK)(E:XK)(r:Result)(s':Shared):Prop :=
 match r with
 | .ok (.ret u)=>CE outer P w H s Q u s'
 | .ok _=>False
 | .error e=>CX outer H s E e s'
structure FnOk (P:Program) (w:World) (K:zFr) (mg:zMg) (base:Heap) (CX:CXT) (k:Nat) (f:Addr) (fd:FuncData) (ps:List Str) (sp:Sp):Prop where
 len:∀vs H Q E,sp vs H Q E->vs.length=ps.length
 run:∀(A:Around) (outer:List Env) (s:Shared) (H:Hp) (args:Args) (us:List Value) (vs:List V) (Q:VK) (E:XK),Room k A->Env0 P w K mg base A outer s H->BindsTo s fd args (ps.zip us)->Vals vs us->sp vs H Q E ->
   codeAny (model P w) A (.call (.ref f) args) (CR CX outer P w H s Q E) s
theorem FnOk.mono{P:Program}{w:World}{K:zFr}{mg:zMg}{base:Heap}{CX:CXT}{j k:Nat}{f:Addr}{fd:FuncData}{ps:List Str}{sp:Sp}(F:FnOk P w K mg base CX j f fd ps sp)(h:j<=k) :
   FnOk P w K mg base CX k f fd ps sp:=⟨F.len,fun A outer s H args us vs Q E hr=>F.run A outer s H args us vs Q E (hr.mono h)⟩
theorem FnOk.imp{P:Program}{w:World}{K:zFr}{mg:zMg}{base:Heap}{CX:CXT}{k:Nat}{f:Addr}{fd:FuncData}{ps:List Str}{sp sp':Sp}(F:FnOk P w K mg base CX k f fd ps sp)
   (h:∀vs H Q E,sp' vs H Q E->sp vs H Q E):FnOk P w K mg base CX k f fd ps sp' :=
 ⟨fun vs H Q E q=>F.len vs H Q E (h _ _ _ _ q),fun A outer s H args us vs Q E hr he hb hv hs=>F.run A outer s H args us vs Q E hr he hb hv (h _ _ _ _ hs)⟩
theorem Env0.make{P:Program}{w:World}{K:zFr}{mg:zMg}{base:Heap}{A:Around}{outer:List Env}{s:Shared}{H:Hp}(e:Env0 P w K mg base A outer s H)(C:Addr)(us:List Value)(kw:List (Str×Value)) :
   Env0 P w K mg base (A.under (.builtin "type.__call__" ⟨.ref C::us,kw⟩)) outer s H:=⟨by first | exact e.frames | (simpa [Around.under,Code.envs,Code.isFrame,pushEnvs] using e.frames),e.mod,e.bs,e.bsz,e.funs,e.frf,e.hok,e.bare⟩
section
variable {X:Cx}{pins:zAO}{σ:St}{H:Hp}{s s':Shared}
theorem Inv.env0(I:Inv X pins σ H s):Env0 X.prog X.w X.K X.mg X.base X.A X.stack s H :=
 ⟨I.ok.frames,I.ok.mod,I.bs,z1u I.ok.bsz I.sz,I.stack,I.stkFree,I.hok,I.bare⟩
theorem Inv.after{Q:VK}{u:Value}(I:Inv X pins σ H s)(h:CE X.stack X.prog X.w H s Q u s'):EP X pins σ Q u s':=by obtain⟨v,H',os,bare,un,hok,r,q⟩:=h;obtain⟨hh,g,d,t,os'⟩:=s';obtain rfl:os'=s.os:=os;exact⟨v,H',I.call (h':=hh) (g':=g) (d':=d) (t':=t) (ch:=[]) un hok bare (fun b z=>absurd z (by simp)),r,q⟩
end
def zqi(sp:Sp)(dvs:List V)(E:XK)(t:TA):TE:=fun σ H Q=>t σ H fun vs H1=>sp (vs++dvs) H1 Q E
def zxh(C:Addr)(m:Str)(sp:Sp)(dvs:List V)(E:XK)(ta:TE)(t:TA):TE:=fun σ H Q=>ta σ H fun x H1=>∃a dx fs,x=.ref a/\H1 a=some (.ins C dx fs)/\fs.lookup m=none /\
 t σ H1 fun vs H2=>sp (x::(vs++dvs)) H2 Q E
def zqg(C:Addr)(sp:Sp)(dvs:List V)(E:XK)(t:TA):TE:=fun σ H Q=>t σ H fun vs H1=>∀x dx,H1 x=none->H1 dx=none->dx≠x ->
 sp (.ref x::(vs++dvs)) (upd (upd H1 dx (.own x)) x (.ins C dx [])) (fun v H2=>v=.non/\Q (.ref x) H2) E
def Binds(K:zFr)(fd:FuncData)(ps:List Str)(ds:List Value):Prop :=
 ∀(s:Shared) (us:List Value),K.In s.heap->(us++ds).length=ps.length->BindsTo s fd ⟨us,[]⟩ (ps.zip (us++ds))
theorem Binds.all{K:zFr}{fd:FuncData}{ps:List Str}(h:∀us:List Value,us.length=ps.length->bindArgs fd ⟨us,[]⟩=pure (ps.zip us)):Binds K fd ps []:=fun s us _ hl=>by rw[z1z]at hl ⊢;exact .of_eq (h us hl)
def zc6(CX:CXT)(X:Cx)(E:XK):Prop:=∀(pins:zAO) (σ:St) (H:Hp) (s:Shared) (e:Value) (s':Shared),Inv X pins σ H s->CX X.stack H s E e s'->X.xe e s'
section
variable {X:Cx}{CX:CXT}{k:Nat}{f C:Addr}{fd:FuncData}{ps:List Str}{sp:Sp}{dvs:List V}{ds:List Value}{E:XK}{x m:Str}{p pos apos:Pos}{e o:Expr}{es:List Expr}{ta:TE}{t:TA}
theorem zfc{pins:zAO}{σ:St}{H:Hp}{s:Shared}{Q:VK}{us:List Value}{vs:List V}(F:FnOk X.prog X.w X.K X.mg X.base CX k f fd ps sp)(hr:Room k X.A)(hb:Binds X.K fd ps ds)(hd:Vals dvs ds)(hx:zc6 CX X E)
   (I:Inv X pins σ H s) (r:Vals vs us) (h:sp (vs++dvs) H Q E):wpAny (model X.prog X.w) X.A (call (.ref f) us) (EP X pins σ Q) X.xe s:=by
 have r2:Vals (vs++dvs) (us++ds):=r.append hd;have hl:(us++ds).length=ps.length:=by rw[<-r2.length];exact F.len _ _ _ _ h
 refine wpAny_call (z4c (F.run X.A X.stack s H ⟨us,[]⟩ (us++ds) (vs++dvs) Q E hr I.env0 (hb s us I.kIn hl) r2 h) fun r s' hq=>?_);cases r with
 |error e=>exact hx pins σ H s e s' I hq
 | ok fl=>
   cases fl with
   |ret u=>exact I.after hq
   |next=>exact False.elim hq
   |brk=>exact False.elim hq
   |cont=>exact False.elim hq
theorem zra(F:FnOk X.prog X.w X.K X.mg X.base CX k f fd ps sp)(hr:Room k X.A)(hg:Gl X x)(hm:X.mg x=some (.ref f))(hk:PySem.W.keepIn X.K (.ref f)=true)(hb:Binds X.K fd ps ds)(hd:Vals dvs ds)(hx:zc6 CX X E)
   (ha:PA X (e::es) t) (hdb:(x==("__debug__":Str))=false:=by decide) (he:starEach (e::es) X.env=(false,eval e X.env)::starEach es X.env:=by rfl) (hpl:(backTo pos (starEach es X.env)).any (·.1)=false:=by rfl) :
   PE X (.Call (.Name x p) (e::es) [] pos) (zqi sp dvs E t):=by
 intro pins s σ H Q I h;refine z26 (zd4 I hg hm ?_ hdb);refine z3i (h₀:=X.base) I.ok.mod.kin hk (thn (ha pos pins s σ H _ I h) fun us s1 ⟨vs,H1,I1,r,q⟩=>⟨I1.kIn,?_⟩) he hpl;exact zfc F hr hb hd hx I1 r q
theorem zq6{pl:Sem Bool}(he:PE X o ta)(c:Cls X.K C)(hm:Meth X.K C m f)(F:FnOk X.prog X.w X.K X.mg X.base CX k f fd ps sp)(hr:Room k X.A)(hb:Binds X.K fd ps ds)(hd:Vals dvs ds)(hx:zc6 CX X E)(ha:PA X (e::es) t)
   (hst:starEach (e::es) X.env=(false,eval e X.env)::starEach es X.env:=by rfl) (hpl:(backTo pos (starEach es X.env)).any (·.1)=false:=by rfl)
   (ht:eval (.Call (.Attribute o m apos) (e::es) [] pos) X.env=(do
     let ov <-eval o X.env
     standAt apos.atName
     let(f,first) <-holding [ov] (getMethod ov m pl)
     callWith pos f first (backTo pos (starEach (e::es) X.env)) (backToKw pos (keywordEach [] X.env))):=by rfl) :
   PE X (.Call (.Attribute o m apos) (e::es) [] pos) (zxh C m sp dvs E ta t):=by
 intro pins s σ H Q I h;refine PySem.W.methodCall_KW (pl:=pl) (thn (he pins s σ H _ I h) fun u s1 ⟨x,H1,I1,rx,a,dx,fs,ex,ea,l,q⟩=>?_) ht;subst ex;obtain rfl:u=Value.ref a:=rx;refine zjf I1 ea c hm l ?_;refine z3i (first:=[.ref a]) (h₀:=X.base) I.ok.mod.kin hm.kp (thn (ha pos pins s1 σ H1 _ I1 q) fun us s2 ⟨vs,H2,I2,r,q2⟩=>⟨I2.kIn,?_⟩) hst hpl;exact zfc (us:=.ref a::us) (vs:=.ref a::vs) F hr hb hd hx I2 (.cons rfl r) q2
structure Mk (K:zFr) (C f:Addr):Prop where
 makes:PySem.W.makesIn K C=true
 init:PySem.W.findIn K (.ref C) "__init__"=some (some (.ref f))
 fn:PySem.W.isFn K (.ref f)=true
 kp:PySem.W.keepIn K (.ref C)=true
theorem zh2{pins:zAO}{σ:St}{H:Hp}{s:Shared}{Q:VK}{us:List Value}{vs:List V}(M:Mk X.K C f)(F:FnOk X.prog X.w X.K X.mg X.base CX k f fd ps sp)(hr:Room (k+1) X.A)(hb:Binds X.K fd ps ds)(hd:Vals dvs ds)
   (hx:zc6 CX X E) (I:Inv X pins σ H s) (r:Vals vs us)
   (h:∀x dx,H x=none->H dx=none->dx≠x->sp (.ref x::(vs++dvs)) (upd (upd H dx (.own x)) x (.ins C dx [])) (fun v H2=>v=.non/\Q (.ref x) H2) E) :
   wpAny (model X.prog X.w) X.A (call (.ref C) us) (EP X pins σ Q) X.xe s:=by
 have hq:=h (s.heap.objs.size+1) s.heap.objs.size (I.hok.fresh (z37 _)) (I.hok.fresh (z07 _)) (z1o (z3b _));have I2:=Inv.made (C:=C) I;have r2:Vals (V.ref (s.heap.objs.size+1)::(vs++dvs)) (Value.ref (s.heap.objs.size+1)::(us++ds)):=.cons rfl (r.append hd);have hl:(Value.ref (s.heap.objs.size+1)::us++ds).length=ps.length:=by have e:=r2.length;rw[F.len _ _ _ _ hq]at e;exact e.symm
 refine wpAny_call (znr (f:=f) I.kIn M.makes M.init (z3r.mp M.fn) (z4c (F.run _ X.stack _ _ ⟨Value.ref (s.heap.objs.size+1)::us,[]⟩ (Value.ref (s.heap.objs.size+1)::(us++ds)) _ _ E (hr.make C us [])
   (I2.env0.make C us []) (hb _ (Value.ref (s.heap.objs.size+1)::us) I2.kIn hl) r2 hq) fun r s' hq'=>?_))
 cases r with
 |error e=>exact hx pins σ _ _ e s' I2 hq'
 | ok fl=>
   cases fl with
   | ret u=>
     obtain⟨v,H',I3,rv,ev,q3⟩:=I2.after hq';subst ev;exact⟨rv,⟨V.ref (s.heap.objs.size+1),H',I3,rfl,q3⟩⟩
   |next=>exact False.elim hq'
   |brk=>exact False.elim hq'
   |cont=>exact False.elim hq'
theorem zq7(M:Mk X.K C f)(F:FnOk X.prog X.w X.K X.mg X.base CX k f fd ps sp)(hr:Room (k+1) X.A)(hg:Gl X x)(hm:X.mg x=some (.ref C))(hb:Binds X.K fd ps ds)(hd:Vals dvs ds)(hx:zc6 CX X E)
   (ha:PA X (e::es) t) (hdb:(x==("__debug__":Str))=false:=by decide) (he:starEach (e::es) X.env=(false,eval e X.env)::starEach es X.env:=by rfl) (hpl:(backTo pos (starEach es X.env)).any (·.1)=false:=by rfl) :
   PE X (.Call (.Name x p) (e::es) [] pos) (zqg C sp dvs E t):=by
 intro pins s σ H Q I h;refine z26 (zd4 I hg hm ?_ hdb);refine z3i (h₀:=X.base) I.ok.mod.kin M.kp (thn (ha pos pins s σ H _ I h) fun us s1 ⟨vs,H1,I1,r,q⟩=>⟨I1.kIn,?_⟩) he hpl;exact zh2 M F hr hb hd hx I1 r q
theorem zni(M:Mk X.K C f)(F:FnOk X.prog X.w X.K X.mg X.base CX k f fd ps sp)(hr:Room (k+1) X.A)(hg:Gl X x)(hm:X.mg x=some (.ref C))(hb:Binds X.K fd ps ds)(hd:Vals dvs ds)(hx:zc6 CX X E)
   (hdb:(x==("__debug__":Str))=false:=by decide):PE X (.Call (.Name x p) [] [] pos) (zqg C sp dvs E zzm):=by
 intro pins s σ H Q I h;refine z26 (zd4 I hg hm ?_ hdb);exact PySem.W.callWith_K0 I.kIn M.kp (zh2 (us:=[]) M F hr hb hd hx I .nil h)
end
structure FnScope (N P:List Str) (sc:Scope):Prop where
 kind:sc.kind=.function
 co:sc.isCoroutine=false
 gen:sc.isGenerator=false
 nd:N.Nodup
 pre:N.take P.length=P
 par:∀x∈P,sc.names.lookup x=some .local\/sc.names.lookup x=some .cell
 nofree:∀y∈sc.names,y.2≠.free
theorem zgd{kindOf:Str->Option NameKind}{x:Str}:∀{binds:List (Str×Value)}{m:zMg},(∀v,(x,v)∉binds)->bindL kindOf binds m x=m x
 | [],_,_=>rfl
 | (n,v)::r,m,h=>by
   unfold bindL;rw[zgd fun w hw=>h w (z09 _ hw)];split
   · have:x≠n:=by rintro rfl;exact h v z1j
     simp[this]
   · rfl
theorem zgf{kindOf:Str->Option NameKind}{x:Str}:∀{binds:List (Str×Value)}{m:zMg},(∀v,(x,v)∉binds)->bindC kindOf binds m x=m x
 | [],_,_=>rfl
 | (n,v)::r,m,h=>by
   unfold bindC;rw[zgf fun w hw=>h w (z09 _ hw)];split
   · rfl
   · have:x≠n:=by rintro rfl;exact h v z1j
     simp[this]
theorem zge{kindOf:Str->Option NameKind}{x:Str}{v:Value}:∀{P:List Str}{vs:List Value}{i:Nat}{m:zMg},P.Nodup->P[i]? = some x->vs[i]? = some v->kindOf x=some .local ->
   bindL kindOf (P.zip vs) m x=some v
 | [],_,_,_,_,h,_,_=>by simp at h
 |_::_,[],_,_,_,_,h,_=>by simp at h
 | p::P,w::vs,0,m,nd,h1,h2,hk=>by simp at h1 h2;subst h1;subst h2;show bindL kindOf ((p,w)::P.zip vs) m p=_;unfold bindL;rw[zgd fun v hv=>(z2g.mp nd).1 (z29 hv).1,z1t hk];simp
 | p::P,w::vs,i+1,m,nd,h1,h2,hk=>by show bindL kindOf ((p,w)::P.zip vs) m x=_;unfold bindL;exact zge (i:=i) (z2g.mp nd).2 (by simpa using h1) (by simpa using h2) hk
theorem zgg{kindOf:Str->Option NameKind}{x:Str}{v:Value}:∀{P:List Str}{vs:List Value}{i:Nat}{m:zMg},P.Nodup->P[i]? = some x->vs[i]? = some v->kindOf x≠some .local ->
   bindC kindOf (P.zip vs) m x=some v
 | [],_,_,_,_,h,_,_=>by simp at h
 |_::_,[],_,_,_,_,h,_=>by simp at h
 | p::P,w::vs,0,m,nd,h1,h2,hk=>by simp at h1 h2;subst h1;subst h2;show bindC kindOf ((p,w)::P.zip vs) m p=_;unfold bindC;rw[zgf fun v hv=>(z2g.mp nd).1 (z29 hv).1,z10 hk];simp
 | p::P,w::vs,i+1,m,nd,h1,h2,hk=>by show bindC kindOf ((p,w)::P.zip vs) m x=_;unfold bindC;exact zgg (i:=i) (z2g.mp nd).2 (by simpa using h1) (by simpa using h2) hk
def start(N:List Str)(vs:List V):St:=vs.map some++List.replicate (N.length-vs.length) none
def zgj(CX:CXT)(P:Program)(w:World)(K:zFr)(mg:zMg)(base:Heap)(N:List Str)(qual:Str)(scope:Scope)(f:Addr)(cd:Value)(A:Around)(outer:List Env)(s:Shared)(H:Hp)(E:XK):Cx where
 prog:=P
 w:=w
 K:=K
 mg:=mg
 base:=base
 A:=A.deeper (envOfC qual scope s.heap.objs.size f cd)
 N:=N
 s₀:=s
 H₀:=H
 env:=envOfC qual scope s.heap.objs.size f cd
 outer:=outer
 stack:=envOfC qual scope s.heap.objs.size f cd::outer
 ex:=[]
 calm:=true
 fn:=fun _=>true
 pn:=[]
 xe:=fun e s'=>wpAny (model P w) (A.deeper (envOfC qual scope s.heap.objs.size f cd)) (leaving (envOfC qual scope s.heap.objs.size f cd) e) (fun _ s''=>CX outer H s E e s'') (fun e' s''=>CX outer H s E e' s'') s'
theorem ziv{sc:Scope}{n:Nat}{x:Str}(h:sc.names.lookup x=some .cell):∃c,(cellsFrom n sc.names []).lookup x=some c:=by have q:=PySem.W.cellsFrom_some sc.names n [] (.inl h);exact z2m.mp q
theorem zfs{CX:CXT}{P:Program}{w:World}{K:zFr}{mg:zMg}{base:Heap}{N ps:List Str}{qual:Str}{scope:Scope}{f:Addr}{cd:Value}{A:Around}{outer:List Env}{s s1:Shared}{H:Hp}{E:XK}{us:List Value}{vs:List V}
   (S:FnScope N ps scope) (hd:A.handled=none) (e0:Env0 P w K mg base A outer s H) (hl:vs.length=ps.length) (r:Vals vs us)
   (x:InCallC s s.heap.objs.size (bindL (envOfC qual scope s.heap.objs.size f cd).kindOf (ps.zip us) fun _=>none) (cellsFrom (s.heap.objs.size+1) scope.names []) (bindC (envOfC qual scope s.heap.objs.size f cd).kindOf (ps.zip us) fun _=>none) s1) :
   Inv (zgj CX P w K mg base N qual scope f cd A outer s H E) [] (start N vs) H s1:=by
 have hpl:ps.length<=N.length:=by have:=z2f List.length S.pre;rw[z1n]at this;omega
 obtain⟨h1,tk,rfl,hk⟩:=x.done;have noA:∀b:Addr,b∉(zgj CX P w K mg base N qual scope f cd A outer s H E).ex:=fun b z=>absurd (show b∈([]:List Addr)from z) (by simp);refine⟨⟨e0.mod,S.kind,rfl,rfl,z07 _,fun y z c h1 h2=>?_,fun y hy=>?_,fun y c _ h=>?_,fun _=>hd,Around.frames_deeper e0.frames,.inr ⟨rfl,rfl⟩,fun b z=>absurd z (noA b),e0.bs,e0.bsz,fun b _ _=>noA b,fun b z=>absurd z (noA b),e0.funs,e0.frf⟩,
   rfl,e0.bare,Un.kept hk,⟨_,x.toInCall.ns,fun i y v h1 h2 h3=>?_⟩,fun y c h=>⟨_,x.cell y c h⟩,e0.hok.fresh (z07 _),fun y c h=>?_,fun p hp=>absurd (show p∈([]:zAO)from hp) (by simp),e0.hok.kept hk,?_⟩
 · exact name_of_addr x.apart (z2j h1) (z2j h2)
 · have hy:scope.names.lookup y=some .cell\/scope.names.lookup y=some .free:=hy;rcases hy with hy | hy
   · exact ziv hy
   · exact absurd rfl (S.nofree _ (z2j hy))
 · exact z2y (x.above y c (z2j h))
 · have hi:i<vs.length:=by
     unfold start at h2;by_cases hi:i<vs.length
     · exact hi
     · rw[z1a (by simpa using hi)]at h2;rw[List.getElem?_replicate]at h2;split at h2<;>cases h2
   have ha:vs[i]? = some v:=by
     unfold start at h2;rw[z1k (by simpa using hi),z1r]at h2;cases e:vs[i]? with
     |none=>rw[e]at h2;cases h2
     |some a=>rw[e]at h2;cases h2;rfl
   obtain⟨u,hu,rv⟩:=r.get ha;have hp:ps[i]? = some y:=by rw[<-S.pre,z2w (by omega)];exact h1
   have ndP:ps.Nodup:=by rw[<-S.pre];exact S.nd.sublist (List.take_sublist _ _)
   refine⟨u,rv,?_⟩;rcases S.par y (z1m hp)with k | k
   · exact .inl ⟨k,zge ndP hp hu k⟩
   · obtain⟨c,e⟩:=ziv (n:=s.heap.objs.size+1) k;refine .inr ⟨.inl k,c,e,?_⟩;have q:=x.cell y c e;rw[zgg ndP hp hu (by show scope.names.lookup y≠_;rw[k];decide)]at q;exact q
 · exact e0.hok.fresh (z2y (x.above y c (z2j h)))
 · unfold start;show _=N.length;rw[z03,z1q,List.length_replicate];omega
theorem zyu{CX:CXT}{P:Program}{w:World}{K:zFr}{mg:zMg}{base:Heap}{k:Nat}{f:Addr}{name qual:Str}{params:Arguments}{body:List Stmt}{scope:Scope}{dV kV doc pm cdv ct oc:Value}{an od:Option Addr}
   {osl:Array (Option Value)}{N ps:List Str}{sp:Sp} (lk:K.lookup f=some ⟨oc,od,.func (PySem.W.fnOf name qual params body scope dV kV doc pm an cdv ct),osl⟩) (hcd:PySem.W.codeIn K cdv qual=true) (S:FnScope N ps scope)
   (len:∀vs H Q E,sp vs H Q E->vs.length=ps.length)
   (hbody:∀(A:Around) (outer:List Env) (s:Shared) (H:Hp) (vs:List V) (Q:VK) (E:XK),Room k (A.deeper (envOfC qual scope s.heap.objs.size f cdv))->sp vs H Q E ->
     ∃t,PSs (zgj CX P w K mg base N qual scope f cdv A outer s H E) body t/\t { nx:=fun _ H'=>Q .non H',rt:=Q } (start N vs) H) :
   FnOk P w K mg base CX (k+1) f (PySem.W.fnOf name qual params body scope dV kV doc pm an cdv ct) ps sp:=by
 refine⟨len,fun A outer s H args us vs Q E hr e0 hb r hsp=>?_⟩;have hl:=len _ _ _ _ hsp;have KX:K.In s.heap:=e0.mod.kin.keeps fun b o e=>(e0.bs b o e).1;have lim:s.heap.NoLimit:=e0.mod.nolimit.keeps fun b o e=>(e0.bs b o e).1;have hkind:∀y∈ps.zip us,scope.names.lookup y.1=some .local\/(scope.names.lookup y.1=some .cell/\((cellsFrom (s.heap.objs.size+1) scope.names []).lookup y.1).isSome=true):=fun⟨n,v⟩ hy=>by
   rcases S.par n (z29 hy).1 with q | q
   · exact .inl q
   · exact .inr ⟨q,PySem.W.cellsFrom_some _ _ _ (.inl q)⟩
 refine codeAny_call_function hr.depth (KX _ _ lk) rfl S.co S.gen rfl (PySem.W.codeRec_of KX hcd) (hb _ _ _ _ ?_);refine wpAny_newFunctionEnv_cells S.kind hkind fun env he s1 x=>?_;subst he;refine⟨lim.keeps x.toInCall.keep,codeAny_func ?_⟩;obtain⟨t,ht,hq⟩:=hbody A outer s H vs Q E (hr.deeper _) hsp;have I:Inv (zgj CX P w K mg base N qual scope f cdv A outer s H E) [] (start N vs) H s1:=zfs S hr.hd e0 hl r x;refine z24 (ht [] s1 (start N vs) H _ I hq) (fun fl s' hs=>?_) fun e s' hs=>hs;have fin:∀{σ':St}{H':Hp}{v:V}{u:Value},Inv (zgj CX P w K mg base N qual scope f cdv A outer s H E) [] σ' H' s'->RelV v u->Q v H'->CE outer P w H s Q u s' :=
   fun {σ' H' v u} J rv q=>⟨v,H',J.os,J.bare,J.base,J.hok,rv,q⟩
 cases fl with
 | ret u=>
   obtain⟨v,σ',H',J,rv,q⟩:=hs;exact fin J rv q
 | next=>
   obtain⟨σ',H',J,q⟩:=hs;exact fin (v:=V.non) (u:=Value.none) J rfl q
 | brk=>
   obtain⟨_,_,_,q⟩:=hs;exact False.elim q
 | cont=>
   obtain⟨_,_,_,q⟩:=hs;exact False.elim q
section
variable {X:Cx}{x:Str}{p pos:Pos}{e:Expr}{es:List Expr}{t:TA}{id T:String}{r:List V->Hp->VK->Prop}
def tCB(r:List V->Hp->VK->Prop)(t:TA):TE:=fun σ H Q=>t σ H fun vs H1=>r vs H1 Q
theorem znl(hc:CallR X (.builtin id) r)(hg:Gl X x)(hm:X.mg x=none)(hv:bootBuiltins x=some (.builtin id))(ha:PA X (e::es) t)(hn:x≠"__name__":=by decide)(hdb:(x==("__debug__":Str))=false:=by decide)
   (he:starEach (e::es) X.env=(false,eval e X.env)::starEach es X.env:=by rfl) (hpl:(backTo pos (starEach es X.env)).any (·.1)=false:=by rfl):PE X (.Call (.Name x p) (e::es) [] pos) (tCB r t):=by
 intro pins s σ H Q I h;refine z26 (zld I hg hm hv ?_ hn hdb);exact PyProof.Rows.callWith_builtin1 (thn (ha pos pins s σ H _ I h) fun us s1 ⟨vs,H1,I1,r1,q1⟩=>hc pins s1 σ H1 vs us Q I1 r1 q1) he hpl
theorem zkx(hc:CallR X (.type T) r)(hg:Gl X x)(hm:X.mg x=none)(hv:bootBuiltins x=some (.type T))(ha:PA X (e::es) t)(hn:x≠"__name__":=by decide)(hdb:(x==("__debug__":Str))=false:=by decide)
   (he:starEach (e::es) X.env=(false,eval e X.env)::starEach es X.env:=by rfl) (hpl:(backTo pos (starEach es X.env)).any (·.1)=false:=by rfl):PE X (.Call (.Name x p) (e::es) [] pos) (tCB r t):=by
 intro pins s σ H Q I h;refine z26 (zld I hg hm hv ?_ hn hdb);exact z31 (thn (ha pos pins s σ H _ I h) fun us s1 ⟨vs,H1,I1,r1,q1⟩=>hc pins s1 σ H1 vs us Q I1 r1 q1) he hpl
end
end L2
namespace HT
open PySem PyProof.Rows
section
open PySem.SeqAt
open PySem.AutoSeq1 (wpAny_loadPart')
open PySem.MeetsSeq PySem.MeetsSeq2 PySem.MeetsSeq3
end
section
variable {prog:Program}{w:World}{A:Around}{E:zVP}{s:Shared}
theorem cat_tup{t b:Addr}{vs ws:List Value}{Q:zVP}(ht:IsTup s.heap t vs.toArray)(hb:IsTup s.heap b ws.toArray)(hv:vs≠[])
   (h1:ws=[]->Q (.ref t) s) (h2:ws≠[]->Q (.ref s.heap.objs.size) { s with heap:=s.heap.push { cls:=.type "tuple",data:=.seq (vs++ws).toArray } })
   (hsz:vs.length+ws.length<=sizeLine):wpAny (model prog w) A (binaryOp .Add (.ref t) (.ref b)) Q E s:=by
 obtain⟨⟨cls,dd,data,sl⟩,ho,hc,n,hd⟩:=id ht;obtain⟨⟨cls2,dd2,data2,sl2⟩,ho2,hc2,n2,hd2⟩:=id hb;simp only at hc hd hc2 hd2;subst hc hd hc2 hd2;have e:vs.toArray++ws.toArray=(vs++ws).toArray:=by simp
 by_cases hw:ws=[]
 · exact z4d ⟨_,ho,rfl⟩ ⟨_,ho2,rfl⟩ noFill_tuple_add seq_tuple_add z3p z3j (z3e _ _)
     (tuple_addW1 t b vs.toArray ws.toArray n n2 dd dd2 sl sl2 (by simpa using hv) (by simp[hw])) ⟨ho,ho2,h1 hw⟩
 · refine z4d ⟨_,ho,rfl⟩ ⟨_,ho2,rfl⟩ noFill_tuple_add seq_tuple_add z3p z3j (z3e _ _)
     (tuple_addW2 t b vs.toArray ws.toArray n n2 dd dd2 sl sl2 (by simpa using hv) (by simpa using hw) (by rw[z1h,z1h];exact hsz)) ⟨ho,ho2,?_⟩
   rw[e];exact h2 hw
end
end HT
namespace L2
open PySem PySem.Spec PyProof.Rows
abbrev TO:=St->Hp->(Option Int->Hp->Prop)->Prop
section
variable {X:Cx}{e:Expr}{te:TE}{lo hi:Option Expr}{tl th:TO}{pos p2:Pos}
def zty(K:zFr):R2:=fun x y H Q=>∃a b xs ys,x=.ref a/\y=.ref b/\SqT K H a xs/\SqT K H b ys/\xs≠[]/\xs.length+ys.length<=sizeLine /\
 (ys=[]->Q (.ref a) H)/\(ys≠[]->∀p,H p=none->Q (.ref p) (upd H p (.tup (xs++ys))))
theorem Vals.nil_iff{xs:List V}{us:List Value}(r:Vals xs us):us=[]↔xs=[]:=by
 cases r with
 |nil=>simp
 |cons _ _=>simp
theorem op_catT:OpR X (binaryOp .Add) (zty X.K):=by intro pins s σ H x y v u Q I rx ry h;obtain⟨a,b,xs,ys,rfl,rfl,ha,hb,hx,hz,q1,q2⟩:=h;cases rx;cases ry;obtain⟨its,r1,p1,_⟩:=I.tuple ha;obtain⟨its2,r2,p2,_⟩:=I.tuple hb;refine HT.cat_tup p1 p2 (fun z=>hx (r1.nil_iff.mp z)) (fun z=>⟨.ref a,H,I,rfl,q1 (r2.nil_iff.mp z)⟩) (fun z=>?_) (by rw[<-r1.length,<-r2.length];exact hz);refine⟨.ref s.heap.objs.size,_,I.laid (t':=s.toks) (o:=.tup (xs++ys)) (fun b ob q=>z1i _ q) (z07 _) ?_,rfl,q2 (fun w=>z (r2.nil_iff.mpr w)) _ (I.hok.fresh (z07 _))⟩;exact⟨by rw[z03];exact hz,_,r1.append r2,IsTup.new _ _⟩
end
def ixN(n:Nat)(i:Int):Option Nat:=if 0<=i then (if i<n then some i.toNat else none)else if -(n:Int)<=i then some (i+n).toNat else none
def atI{α:Type}(xs:List α)(i:Int):Option α:=(ixN xs.length i).bind fun j=>xs[j]?
theorem zrr{n:Nat}{i:Int}{j:Nat}(h:ixN n i=some j):seqIndex? i n=some j/\j<n/\-(n:Int)<=i/\i<n:=by
 unfold ixN at h;by_cases h0:0<=i
 · rw[z1t h0]at h;by_cases h1:i<n
   · rw[z1t h1]at h;have e:i.toNat=j:=z1s h;exact⟨by rw[seqIndex_of h0 h1,e],by omega,by omega,h1⟩
   · rw[z10 h1]at h;cases h
 · rw[z10 h0]at h;by_cases h1:-(n:Int)<=i
   · rw[z1t h1]at h;have e:(i+n).toNat=j:=z1s h;exact⟨by rw[seqIndex_neg (by omega) h1,e],by omega,h1,by omega⟩
   · rw[z10 h1]at h;cases h
theorem zhq{α:Type}{xs:List α}{i:Int}{v:α}(h:atI xs i=some v):∃j,seqIndex? i xs.length=some j/\xs[j]? = some v/\j<xs.length/\-(xs.length:Int)<=i/\i<xs.length:=by
 unfold atI at h;cases e:ixN xs.length i with
 |none=>rw[e]at h;cases h
 | some j=>
   rw[e]at h;obtain⟨h1,h2,h3,h4⟩:=zrr e;exact⟨j,h1,h,h2,h3,h4⟩
theorem ze1{α:Type}{xs:List α}{j:Nat}{v:α}(h:xs[j]? = some v):atI xs (j:Int)=some v:=by
 have hj:j<xs.length:=(z06.mp h).1;have e:ixN xs.length (j:Int)=some j:=by unfold ixN;rw[z1t (by omega),z1t (by omega)];simp
 unfold atI;rw[e];exact h
def zmr(b:Expr):Prop:=∀o i,subscripted b false o i=operate [o,i] (getItem o i)
def IxR(X:Cx)(r:R2):Prop :=
 ∀(value slice:Expr) (pins:zAO) (s:Shared) (σ:St) (H:Hp) (x y:V) (v u:Value) (Q:VK),Inv X pins σ H s->RelV x v->RelV y u->r x y H Q ->
   subscripted slice false v u=operate [v,u] (getItem v u)->wpAny (model X.prog X.w) X.A (subscriptTail value slice v u) (EP X pins σ Q) X.xe s
def MtR(X:Cx)(id:String)(r:V->List V->Hp->VK->Prop):Prop :=
 ∀(pins:zAO) (s:Shared) (σ:St) (H:Hp) (x:V) (xs:List V) (v:Value) (us:List Value) (Q:VK),Inv X pins σ H s->RelV x v->Vals xs us->r x xs H Q ->
   wpAny (model X.prog X.w) X.A (call (.builtin id) (v::us)) (EP X pins σ Q) X.xe s
section
variable {X:Cx}{a b:Expr}{ta tb:TE}{pos:Pos}
theorem IxR.or{r r':R2}(h:IxR X r)(h':IxR X r'):IxR X (fun x y H Q=>r x y H Q\/r' x y H Q):=by
 intro value slice pins s σ H x y v u Q I rx ry q hs;rcases q with q | q
 · exact h value slice pins s σ H x y v u Q I rx ry q hs
 · exact h' value slice pins s σ H x y v u Q I rx ry q hs
theorem zx2{r:R2}(hr:IxR X r)(ha:PE X a ta)(hb:PE X b tb)(hs:zmr b):PE X (.Subscript a b pos) (tOp r ta tb):=by intro pins s σ H Q I h;exact Subscript_ (zza ha hb I h fun v u s2 x y H2 I2 rx ry q=>hr a b pins s2 σ H2 x y v u Q I2 rx ry q (hs _ _))
def zzr(K:zFr):R2:=fun x y H Q=>∃p xs i v,x=.ref p/\y=.int i/\SqL K H p xs/\atI xs i=some v/\Q v H
def zzp(K:zFr):R2:=fun x y H Q=>∃p xs i v,x=.ref p/\y=.int i/\SqT K H p xs/\atI xs i=some v/\Q v H
def zzq:R2:=fun x y H Q=>∃z i c,x=.str z/\y=.int i/\z.length<=sizeLine/\atI z.cps.toList i=some c/\Q (.str ⟨#[c]⟩) H
theorem ix_list:IxR X (zzr X.K):=by
 intro value slice pins s σ H x y v u Q I rx ry h hs;obtain⟨p,xs,i,z,rfl,rfl,hq,he,q⟩:=h;cases rx;obtain⟨t,rfl⟩:=ry;obtain⟨its,r,pl,hz⟩:=I.list hq;obtain⟨j,h1,h2,h3,h4,h5⟩:=zhq he;obtain⟨w,ew,rw'⟩:=r.get h2;have hl:=r.length;have hn:=zfn;have fin:EP X pins σ Q w s:=⟨z,H,I,rw',q⟩
 by_cases h0:0<=i
 · have hj:i.toNat=j:=by rw[seqIndex_of h0 h5]at h1;exact z1s h1
   exact item_listR pl.isList h0 (by omega) (by rw[hj];simpa using ew) fin hs
 · have hj:(i+(its.toArray.size:Int)).toNat=j:=by rw[seqIndex_neg (by omega) h4]at h1;rw[z1h,<-hl];exact z1s h1
   exact subscriptTail_builtinR (x:=w) pl.isList.typeIs slot_list_getitem.lookup
     (wpAny_getItem_list_neg (Q:=fun r s'=>r=w/\EP X pins σ Q r s') pl.isList (by omega) (by rw[z1h]<;>omega) (by omega) (by rw[hj];simpa using ew) ⟨rfl,fin⟩) hs
theorem ix_tup:IxR X (zzp X.K):=by
 intro value slice pins s σ H x y v u Q I rx ry h hs;obtain⟨p,xs,i,z,rfl,rfl,hq,he,q⟩:=h;cases rx;obtain⟨t,rfl⟩:=ry;obtain⟨its,r,pl,hz⟩:=I.tuple hq;obtain⟨j,h1,h2,h3,h4,h5⟩:=zhq he;obtain⟨w,ew,rw'⟩:=r.get h2;have hl:=r.length;have hn:=zfn;have fin:EP X pins σ Q w s:=⟨z,H,I,rw',q⟩
 exact subscriptTail_builtinR (x:=w) pl.typeIs slot_tuple_getitem.lookup
   (getItem_tuple (j:=j) (Q:=fun r s'=>r=w/\EP X pins σ Q r s') pl (by omega) (by omega) (by rw[z1h,<-hl];exact h1) (by simpa using ew) ⟨rfl,fin⟩) hs
theorem zva:IxR X zzq:=by
 intro value slice pins s σ H x y v u Q I rx ry h hs;obtain⟨z,i,c,rfl,rfl,hz,he,q⟩:=h;obtain⟨t,rfl⟩:=rx;obtain⟨t',rfl⟩:=ry;obtain⟨j,h1,h2,h3,h4,h5⟩:=zhq he;have hl:z.cps.toList.length=z.length:=by simp[Str.length]
 rw[hl]at h1 h4 h5;have hn:=zfn;exact tail_any (typeIs_str s z t) slot_str_getitem.lookup (getItem_str (c:=c) (by
   have e1:decide (i < -(2^63:Int))=false:=z1b (by omega);have e2:decide (i ≥ 2^63)=false:=z1b (by omega);rw[e1,e2,Bool.or_false]) (by rw[h1];simpa using h2) ⟨.str ⟨#[c]⟩,H,I.tok _,⟨_,rfl⟩,q⟩) hs
def rIx(K:zFr):R2:=fun x y H Q=>zzr K x y H Q\/zzp K x y H Q\/zzq x y H Q
theorem zvb:IxR X (rIx X.K):=ix_list.or (ix_tup.or zva)
def zg5:V->Bool
 | .non=>true
 | .bl _=>true
 | .int _=>true
 | .str _=>true
 |_=>false
def eqV:V->V->Bool
 | .non,.non=>true
 | .bl a,.bl b=>a==b
 | .bl a,.int b=>(if a then 1 else 0)==b
 | .int a,.bl b=>a==(if b then 1 else 0)
 | .int a,.int b=>a==b
 | .str a,.str b=>a==b
 |_,_=>false
theorem zpt{A:Around}{s:Shared}{y x:V}{u v:Value}(ry:RelV y u)(rx:RelV x v)(fy:zg5 y=true)(fx:zg5 x=true):SeqAt.EqAt A s u v (eqV y x):=by
 cases y with
 | non=>
   cases ry;cases x with
   |non=>cases rx;exact SeqAt.EqAt.same _
   |bl b=>cases rx;exact SeqAt.EqAt.none_bool b
   |int b=>obtain⟨t,rfl⟩:=rx;exact SeqAt.EqAt.none_int b t
   |str b=>obtain⟨t,rfl⟩:=rx;exact SeqAt.EqAt.none_str b t
   |_=>exact absurd (show false=true from fx) z16
 | bl a=>
   cases ry;cases x with
   |non=>cases rx;exact SeqAt.EqAt.bool_none a
   |bl b=>cases rx;exact SeqAt.EqAt.bool_bool a b
   |int b=>obtain⟨t,rfl⟩:=rx;exact SeqAt.EqAt.bool_int a b t
   |str b=>obtain⟨t,rfl⟩:=rx;exact SeqAt.EqAt.bool_str a b t
   |_=>exact absurd (show false=true from fx) z16
 | int a=>
   obtain⟨t',rfl⟩:=ry;cases x with
   |non=>cases rx;exact SeqAt.EqAt.int_none a t'
   |bl b=>cases rx;exact SeqAt.EqAt.int_bool a t' b
   |int b=>obtain⟨t,rfl⟩:=rx;exact SeqAt.EqAt.int_int a t' b t
   |str b=>obtain⟨t,rfl⟩:=rx;exact SeqAt.EqAt.int_str a t' b t
   |_=>exact absurd (show false=true from fx) z16
 | str a=>
   obtain⟨t',rfl⟩:=ry;cases x with
   |non=>cases rx;exact SeqAt.EqAt.str_none a t'
   |bl b=>cases rx;exact SeqAt.EqAt.str_bool a t' b
   |int b=>obtain⟨t,rfl⟩:=rx;exact SeqAt.EqAt.str_int a t' b t
   |str b=>obtain⟨t,rfl⟩:=rx;exact SeqAt.EqAt.str_str a t' b t
   |_=>exact absurd (show false=true from fx) z16
 |_=>exact absurd (show false=true from fy) z16
theorem call_len_seq:CallR X (.builtin "len") (fun xs H Q=>∃p ys,xs=[.ref p]/\(SqL X.K H p ys\/SqT X.K H p ys)/\Q (.int ys.length) H):=by
 intro pins s σ H xs us Q I r h;obtain⟨p,ys,rfl,hq,q⟩:=h;obtain⟨u,rfl,rx⟩:=zjz r;cases rx;have hn:=zfn;rcases hq with hq | hq
 · obtain⟨its,r',pl,hz⟩:=I.list hq;have hlen:=r'.length;exact Calls.call_len_list pl.isList (by simp only[z1h]<;>omega) ⟨.int ys.length,H,I.tok _,⟨s.toks+1,by rw[z1h,hlen]⟩,q⟩
 · obtain⟨its,r',pl,hz⟩:=I.tuple hq;have hlen:=r'.length;exact len_tuple pl (by simp only[z1h]<;>omega) ⟨.int ys.length,H,I.tok _,⟨s.toks+1,by rw[z1h,hlen]⟩,q⟩
theorem zf5:CallR X (.builtin "len") (fun xs H Q=>∃z,xs=[.str z]/\z.length<=sizeLine/\Q (.int z.length) H):=by intro pins s σ H xs us Q I r h;obtain⟨z,rfl,hz,q⟩:=h;obtain⟨u,rfl,t,rfl⟩:=zjz r;have hn:=zfn;exact len_str (by omega) ⟨.int z.length,H,I.tok _,⟨_,rfl⟩,q⟩
theorem CallR.or{f:Value}{r r':List V->Hp->VK->Prop}(h:CallR X f r)(h':CallR X f r'):CallR X f (fun xs H Q=>r xs H Q\/r' xs H Q):=by
 intro pins s σ H xs us Q I rs q;rcases q with q | q
 · exact h pins s σ H xs us Q I rs q
 · exact h' pins s σ H xs us Q I rs q
theorem zf4:CallR X (.type "list") (fun xs H Q=>∃p ys,xs=[.ref p]/\(SqL X.K H p ys\/SqT X.K H p ys)/\∀l,H l=none->Q (.ref l) (upd H l (.lst ys))):=by
 intro pins s σ H xs us Q I r h;obtain⟨p,ys,rfl,hq,q⟩:=h;obtain⟨u,rfl,rx⟩:=zjz r;cases rx;have fin:∀(its:List Value),Vals ys its->ys.length<=sizeLine->∀(h':Heap) (c':Nat),(∀b o',s.heap.get? b=some o'->h'.get? b=some o') ->
     h'.get? s.heap.objs.size=some { cls:=.type "list",dict:=none,data:=.seq its.toArray c',slots:=#[] }->EP X pins σ Q (.ref s.heap.objs.size) { s with heap:=h' }:=fun its r' hz h' c' kp e=>
   ⟨.ref s.heap.objs.size,_,I.laid (t':=s.toks) kp (z07 _) (show ObjOk X.prog X.w _ h' _ (.lst ys) from⟨hz,its,c',r',e⟩),rfl,q _ (I.hok.fresh (z07 _))⟩
 rcases hq with hq | hq
 · obtain⟨its,r',pl,hz⟩:=I.list hq;have hlen:=r'.length;obtain⟨o,ho,hc,n,hd⟩:=pl.isList;exact call_list_seq p (.inl rfl) ho hc hd (fun h' c' kp e=>fin its r' hz h' c' kp e) (by simp only[z1h]<;>omega)
 · obtain⟨its,r',pl,hz⟩:=I.tuple hq;have hlen:=r'.length;obtain⟨o,ho,hc,n,hd⟩:=pl;exact call_list_seq p (.inr rfl) ho hc hd (fun h' c' kp e=>fin its r' hz h' c' kp e) (by simp only[z1h]<;>omega)
def tyV(K:zFr)(T:String)(x:V)(H:Hp):Prop:=match x with
 | .str _=>T="str"
 | .int _=>T="int"
 | .ref p=>(T="list"/\∃xs,SqL K H p xs)\/(T="tuple"/\∃o,K.lookup p=some o/\o.cls=.type "tuple"/\o.dict=none) \/
     (T="dict"/\((∃kvs,H p=some (.dK kvs))\/∃kvs,H p=some (.dT kvs)))\/(T="set"/\∃S n,H p=some (.set S n))
 |_=>False
theorem zou{pins:zAO}{σ:St}{H:Hp}{s:Shared}{T:String}{x:V}{v:Value}(I:Inv X pins σ H s)(r:RelV x v)(ty:tyV X.K T x H) :
   s.TypeIs v T/\∀a,v=.ref a->∃ob,s.heap.get? a=some ob/\ob.dict=none:=by
 cases x with
 | str z=>
   obtain⟨t,rfl⟩:=r;cases(show T="str" from ty);exact⟨typeIs_str s z t,fun _ e=>nomatch e⟩
 | int i=>
   obtain⟨t,rfl⟩:=r;cases(show T="int" from ty);exact⟨typeIs_int s i t,fun _ e=>nomatch e⟩
 | ref p=>
   cases r;rcases ty with⟨rfl,xs,hq⟩ | ⟨rfl,o,hk,hc,hd⟩ | ⟨rfl,hk⟩ | ⟨rfl,S,n,hk⟩
   · obtain⟨its,_,pl,_⟩:=I.list hq;refine⟨pl.isList.typeIs,fun a e=>?_⟩;cases e;obtain⟨o,n,e,c,hd,_⟩:=pl;exact⟨o,e,hd⟩
   · refine⟨⟨o,I.kIn p o hk,hc⟩,fun a e=>?_⟩;cases e;exact⟨o,I.kIn _ o hk,hd⟩
   · have z:∃o,s.heap.get? p=some o/\o.ExactDict:=by
       rcases hk with⟨kvs,hk⟩ | ⟨kvs,hk⟩
       · obtain⟨_,_,_,_,o,_,_,e,ex,_⟩:=I.hok p _ hk;exact⟨o,e,ex⟩
       · obtain⟨_,_,_,_,o,_,_,e,ex,_⟩:=I.hok p _ hk;exact⟨o,e,ex⟩
     obtain⟨o,e,ex⟩:=z;refine⟨⟨o,e,ex.1⟩,fun a e2=>?_⟩;cases e2;exact⟨o,e,ex.2.1⟩
   · obtain⟨o,_,_,_,e,ex,_⟩:=I.hok p _ hk;refine⟨⟨o,e,ex.1⟩,fun a e2=>?_⟩;cases e2;exact⟨o,e,ex.2.1⟩
 |_=>exact False.elim ty
def z0h(K:zFr)(T:String)(r:V->List V->Hp->VK->Prop)(to:TE):TE:=fun σ H Q=>to σ H fun x H1=>tyV K T x H1/\r x [] H1 Q
def tBM(K:zFr)(T:String)(r:V->List V->Hp->VK->Prop)(to:TE)(t:TA):TE:=fun σ H Q=>to σ H fun x H1=>tyV K T x H1/\t σ H1 fun xs H2=>r x xs H2 Q
variable {o e:Expr}{es:List Expr}{to:TE}{t:TA}{name:Str}{apos cpos:Pos}{T id:String}{r:V->List V->Hp->VK->Prop}
theorem zum(pa:PlainAttrs T)(slot:Slot T name id)(hty:typeOf (.builtin id)=pure (.type "method_descriptor"))(hm:MtR X id r)(ho:PE X o to)
   (hbase:attributeBase o name X.env (eval o X.env)=eval o X.env:=by rfl) (hline:(apos.endLine==cpos.line)=true:=by rfl):PE X (.Call (.Attribute o name apos) [] [] cpos) (z0h X.K T r to):=by
 intro pins s σ H Q I h;refine wpAny_Call_method0_late hbase hline (thn (ho pins s σ H _ I h) fun v s1 ⟨x,H1,I1,r1,ty,q1⟩=>?_);obtain⟨h1,h2⟩:=zou I1 r1 ty;exact⟨T,id,pa,slot,hty,h1,h2,z3q rfl (PySem.evalArgs_none (hm pins s1 σ H1 x [] v [] Q I1 r1 .nil q1))⟩
theorem zun(pa:PlainAttrs T)(slot:Slot T name id)(hty:typeOf (.builtin id)=pure (.type "method_descriptor"))(hm:MtR X id r)(ho:PE X o to)(ha:PA X (e::es) t)
   (hbase:attributeBase o name X.env (eval o X.env)=eval o X.env:=by rfl)
   (hfew:((backTo cpos (starEach (e::es) X.env)).all (fun x=>!x.1)&&(backToKw cpos (keywordEach [] X.env)).all (fun x=>x.1.isSome)
     && decide ((e::es).length+([]:List Keyword).length+(if([]:List Keyword).isEmpty then 0 else 1)<30))=true:=by rfl)
   (hline:(apos.endLine==cpos.line)=true:=by rfl) (hs:starEach (e::es) X.env=(false,eval e X.env)::starEach es X.env:=by rfl) (hplain:(backTo cpos (starEach es X.env)).any (·.1)=false:=by rfl) :
   PE X (.Call (.Attribute o name apos) (e::es) [] cpos) (tBM X.K T r to t):=by
 intro pins s σ H Q I h;refine wpAny_Call_method_late hbase hfew hline rfl (thn (ho pins s σ H _ I h) fun v s1 ⟨x,H1,I1,r1,ty,q1⟩=>?_);obtain⟨h1,h2⟩:=zou I1 r1 ty;refine⟨T,id,pa,slot,hty,h1,h2,?_⟩;have hA:=ha cpos pins s1 σ H1 _ I1 q1;rw[hs]at hA ⊢;refine z3q (by show(false||(backTo cpos (starEach es X.env)).any (·.1))=false;rw[hplain]<;>rfl) (Calls.evalArgs_plain ?_);exact thn hA fun us s2 ⟨vs,H2,I2,r2,q2⟩=>hm pins s2 σ H2 x vs v us Q I2 r1 r2 q2
/- xs.append(e),list.index on a module's tuple .. are MtR facts of 06m -/
end
def MtM(X:Cx)(id:String)(r:V->List V->Hp->VK->Prop):Prop :=
 ∀(pins:zAO) (s:Shared) (σ:St) (H:Hp) (x:V) (xs:List V) (v:Value) (us:List Value) (Q:VK),Inv X pins σ H s->RelV x v->Vals xs us->r x xs H Q ->
   wpAny (model X.prog X.w) X.A (call (.builtin id) (v::us)) (EP X pins σ Q) X.xe s
theorem Vals.one:∀{x:V}{us:List Value},Vals [x] us->∃u,us=[u]/\RelV x u
 |_,_,.cons r .nil=>⟨_,rfl,r⟩
theorem Vals.zero:∀{us:List Value},Vals [] us->us=[]
 |_,.nil=>rfl
theorem Vals.dropLast{xs:List V}{us:List Value}(h:Vals xs us):Vals xs.dropLast us.dropLast:=by
 induction h with
 |nil=>exact .nil
 | cons r t ih=>
   cases t with
   |nil=>exact .nil
   |cons q t'=>exact .cons r ih
theorem zji{α:Type}(l:List α):l.eraseIdx (l.length-1)=l.dropLast:=by
 induction l with
 |nil=>rfl
 | cons a r ih=>
   cases r with
   |nil=>rfl
   | cons b r=>
     have e:(a::b::r).length-1=((b::r).length-1)+1:=by have h1:(a::b::r).length=r.length+2:=rfl;have h2:(b::r).length=r.length+1:=rfl;omega
     rw[e,List.eraseIdx_cons_succ,ih]
     all_goals rfl
section
variable {X:Cx}{pins:zAO}{σ:St}{H:Hp}{s:Shared}{l b:Addr}{xs ys zs:List V}
theorem Inv.lset{its its':List Value}{n:Nat}{f:Array Value->Array Value}{t':Nat}(I:Inv X pins σ H s)(hH:H l=some (.lst xs))
   (e:s.heap.get? l=some { cls:=.type "list",data:=.seq its.toArray n }) (hf:f its.toArray=its'.toArray) (hv:Vals ys its') (hz:ys.length<=sizeLine) :
   Inv X pins σ (upd H l (.lst ys)) { s with heap:=s.heap.update l (Obj.mapSeq f),toks:=t' }:=by
 have q:=PySem.IsL.update e f;rw[hf]at q;refine I.write (x:=l) (e:=l) (by rw[hH];exact trivial) (.inl rfl) (fun b' u hb hu=>(Heap.get?_update_other s.heap (Obj.mapSeq f) (z3v hb)).trans hu) ⟨_,q⟩ ?_;exact⟨hz,its',_,hv,q⟩
theorem Inv.lnew{its:List Value}{t':Nat}(I:Inv X pins σ H s)(hv:Vals ys its)(hz:ys.length<=sizeLine) :
   Inv X pins σ (upd H s.heap.objs.size (.lst ys)) { s with heap:=s.heap.push { cls:=.type "list",data:=.seq its.toArray },toks:=t' } :=
 I.laid (fun _ _ q=>z1i _ q) (z07 _) ⟨hz,its,0,hv,z1w _ rfl⟩
theorem Inv.fresh(I:Inv X pins σ H s):H s.heap.objs.size=none:=I.hok.fresh (z07 _)
theorem Inv.lstM(I:Inv X pins σ H s)(hH:H l=some (.lst xs)):xs.length<=sizeLine/\∃(its:List Value) (n:Nat),Vals xs its/\xs.length=its.length/\s.heap.get? l=some { cls:=.type "list",data:=.seq its.toArray n }:=by obtain⟨z,its,n,r,e⟩:=I.hok l _ hH;exact⟨z,its,n,r,r.length,e⟩
end
section
variable {X:Cx}
def zqx:V->List V->Hp->VK->Prop:=fun x vs H Q=>∃l xs y,x=.ref l/\vs=[y]/\H l=some (.lst xs)/\xs.length<sizeLine/\Q .non (upd H l (.lst (xs++[y])))
theorem zk9:MtM X "list.append" zqx:=by intro pins s σ H x vs v us Q I rx rv h;obtain⟨l,xs,y,rfl,rfl,hH,hz,q⟩:=h;cases rx;obtain⟨u,rfl,ru⟩:=rv.one;obtain⟨z,its,n,r,hl,e⟩:=I.lstM hH;refine call_meets F.slot_list_append ⟨_,e,rfl⟩ F.entry_list_append (F.args_list_append_2 _ _) (PySem.list_append l its.toArray n u (by rw[z1h];omega)) ⟨e,?_⟩;refine⟨.non,_,I.lset (its':=its++[u]) hH e (by simp) (r.append (.cons ru .nil)) ?_,rfl,q⟩;rw[z03,List.length_singleton];omega
def z0m:V->List V->Hp->VK->Prop:=fun x vs H Q=>∃l xs y,x=.ref l/\vs=[]/\H l=some (.lst xs)/\xs[xs.length-1]? = some y/\Q y (upd H l (.lst xs.dropLast))
theorem zuw:MtM X "list.pop" z0m:=by
 intro pins s σ H x vs v us Q I rx rv h;obtain⟨l,xs,y,rfl,rfl,hH,hy,q⟩:=h;cases rx;have hus:=rv.zero;subst hus;obtain⟨z,its,n,r,hl,e⟩:=I.lstM hH;obtain⟨u,hu,ru⟩:=r.get hy;have hy':its.toArray[its.toArray.size-1]? = some u:=by show its.toArray[its.length-1]? = some u;rw[<-Array.getElem?_toList,<-hl];exact hu
 refine call_meets F.slot_list_pop ⟨_,e,rfl⟩ F.entry_list_pop (F.args_list_pop_1 _) (MeetsSeq.list_pop_last l its.toArray n u hy' (by rw[z1h];omega)) ⟨e,?_⟩;refine⟨y,_,I.lset (its':=its.dropLast) hH e ?_ r.dropLast ?_,ru,q⟩
 · show its.toArray.eraseIdxIfInBounds (its.toArray.size-1)=its.dropLast.toArray;rw[z1h,List.eraseIdxIfInBounds_toArray,zji]
 · rw[List.length_dropLast];omega
end
end L2
namespace Att
open PySem PySem.W PySem.Calls PyProof.Rows
theorem zcs{P:Params}{h:Heap}:∀(ns:List Int) (vs:List Value),WellAll P h vs (ns.map WData.int)->IntsAre vs ns:=by
 intro ns
 induction ns with
 | nil=>
   intro vs w;rw[List.map_nil]at w;cases w;exact .nil
 | cons n ns ih=>
   intro vs w;rw[z1g]at w;cases w with
   | cons a b=>
     cases a;exact .cons _ _ (ih _ b)
theorem zkg{l:OpenLaw}{n:Nat}(hn:l.most=some n){P:Params}{h:Heap}{args:List WData}{vals:List Value}
   (hpre:l.row.toRowW.claim.pre args=true) (hwl:WellAll P h vals args) :
   ∃a vs ns,vals=[Value.ref a]/\args=[WData.list (ns.map WData.int)]/\h.get? a=some { cls:=.type "list",data:=.seq vs.toArray }/\IntsAre vs ns/\ns.length<=n:=by
 have hsh:WShape.hasAll [] args [.list .int]=true:=(pre_splitW hpre).1;have hc:l.pre.holds [] { args:=args }=true:=(pre_splitW hpre).2;obtain⟨d,r,rfl,h1,h2⟩:=hasAllW_cons hsh;obtain rfl:=hasAllW_nil h2;obtain⟨xs,rfl,h3⟩:=hasW_list h1;obtain⟨ns,rfl⟩:=items_int h3;have hlen:ns.length<=n:=by
   unfold OpenLaw.pre at hc;have h4:(WTm.not (.lt (.lit (.int (n:Int))) (.len (.arg 0)))).holds [] { args:=[.list (ns.map .int)] }=true:=by have h4:=(holds_andW hc).1;rw[hn]at h4;exact h4
   have h5:=condW_of h4 (w_not (w_lt w_lit (w_len_list (w_arg rfl))));rw[z1q]at h5;refine Nat.le_of_not_lt fun q=>?_;have q':(n:Int)<((ns.length:Nat):Int):=by omega
   first
     | (rw[z1c q']at h5;exact absurd h5 (by decide))
     | (simp at h5;omega)
 cases hwl with
 | cons w1 w2=>
   cases w2;cases w1 with
   |list ho hall=>exact⟨_,_,ns,rfl,rfl,ho,zcs ns _ hall,hlen⟩
theorem zku(l:OpenLaw)(args:List WData):l.row.toRowW.claim.post args (.bool true) args=true :=
 postW_of (r:=l.row.toRowW) (X:=(true==true))
   (show WShape.has [] (.bool true) .bool=true by first | rfl | decide | simp[WShape.has,WShape.arms,WShape.armsAll])
   (show(WTm.eq .res (.lit (.bool true))).value [] { args:=args,res:=some (.bool true),after:=args }=some (.bool (true==true))from w_eq_bool (w_res rfl) w_lit) rfl
theorem attach_call{l:OpenLaw}{n:Nat}{q:Program}{loose:List Str}{XP:(zMg)->Heap->Prop}{YP:World->Heap->Prop}{d:DefRec}
   (hn:l.most=some n) (hdf:d.params.defaults=[])
   (call:∀(w:World) (s₀ s₁:Shared) (mg mb:zMg) (fa:Addr) (o:Obj) (pm cd doc:Value) (a:Addr) (vs:List Value) (ns:List Int),
     Ground q loose [] XP w s₀ mg mb s₁.heap->YP w s₁.heap ->
     s₁.heap.get? fa=some o->o.data=.func (docDef d.name d.params d.body d.scope pm cd doc)->s₁.heap.CodeRec cd d.name->mg d.name=some (.ref fa) ->
     s₁.heap.get? a=some { cls:=.type "list",data:=.seq vs.toArray }->IntsAre vs ns->ns.length<=n->s₁.gens=#[] ->
     codeAny (model l.prog w) callerA (.call (.ref fa) ⟨[.ref a],[]⟩) (fun r s'=>r=.ok (.ret (.bool true))/\OldK s₁.heap s'.heap/\s'.os=s₁.os/\AllBare s'.gens) s₁) :
   WalkO q loose XP YP l.row.toRowW d [] (fun f vs=>PySem.call f vs):=by
 intro w s₀ s₁ mg mb G Y fa o pm cd doc dV kV ho hd hcd hD hmg hg args vals as hpre hlay hrd hwl hlo;obtain rfl:dV=.none:=Dflts.none hD hdf;obtain rfl:kV=.none:=Dflts.noKw hD;obtain⟨a,vs,ns,rfl,rfl,hobj,hints,hlen⟩:=zkg hn hpre hwl;refine enter_call (z4c (call w s₀ s₁ mg mb fa o pm cd doc a vs ns G Y ho (fd_plain hd) hcd hmg hobj hints hlen hg) fun r s' hq=>?_);obtain⟨rfl,h2,h3,h4⟩:=hq;exact⟨.inl ⟨.bool true,.bool true,[],rfl,fun _=>rfl,.bool true,zku l _,fun _=>⟨List.Pairwise.nil,fun _ hm=>(nomatch hm)⟩⟩,h2,h3,h4⟩
section
variable {prog:Program}{w:World}{A:Around}{E:zVP}{s:Shared}{K:Frag}
def zzv(h:Heap)(L d:Addr):zAO:=(List.range h.objs.size).filterMap fun a=>if a=L\/a=d then none else (h.get? a).map fun o=>(a,o)
end
end Att
namespace L2
open PySem PySem.Spec PyProof.Rows
theorem ze7:∀{vs:List Value}{ns:List Int},IntsAre vs ns->Vals (ns.map V.int) vs
 |_,_,.nil=>.nil
 |_,_,.cons n t h=>.cons ⟨t,rfl⟩ (ze7 h)
abbrev KOf{K:zFr}{h:Heap}(_:K.In h):zFr:=K
end L2
/- THE LAST THEOREM (shape;LID,My.* are yours):
  My.Adr: a structure of the addresses that your layer names (classes,functions);My.Txt K t: a structure (Prop) of the equations over K;
  My.txt_mk:{K}{implicit addresses ..} (e1:nsIn K mainGlobals "law"=some (some (.ref f))) (e2:K.lookup f=some ⟨oc,od,.func (fnOf "law" "law" params body scope dV kV doc pm an cdv ct),sl⟩) (e3:codeIn K cdv "law"=true) ..:∃t,My.Txt K t
(the tactic k_is has no namespace: write k_is) -/
namespace L2
open PySem PySem.Spec PyProof.Rows
def zd8(s:Stmt)(j:Nat):Stmt:=match s with
 | .ClassDef _ _ _ body _ _ _ _ _ _ _=>body.getD j (.Pass ⟨0,0,0,0⟩)
 |_=>.Pass ⟨0,0,0,0⟩
def zbd(s:Stmt):Arguments:=match s with
 | .FunctionDef _ a _ _ _ _ _ _ _ _=>a
 |_=>{ posonlyargs:=[],args:=[],vararg:=none,kwonlyargs:=[],kw_defaults:=[],kwarg:=none,defaults:=[] }
def xk(s:Stmt):List Stmt:=match s with
 | .FunctionDef _ _ b _ _ _ _ _ _ _=>b
 |_=>[]
def zj(s:Stmt):Scope:=match s with
 | .FunctionDef _ _ _ _ _ _ sc _ _ _=>sc
 |_=>{ kind:=.function,names:=[],isGenerator:=false,isCoroutine:=false }
abbrev CX0:CXT:=fun _ _ _ _ _ _=>False
abbrev E0:XK:=fun _ _ _=>False
theorem zgs{X:Cx}:zc6 CX0 X E0:=fun _ _ _ _ _ _ _ h=>h.elim
theorem zw3{A B:Prop}(h:B):if false=true then A else B:=by rw[z10 z16];exact h
theorem zw2{A B:Prop}(h:A):if true=true then A else B:=by rw[z1t rfl];exact h
section
variable {κ:Type} [DecidableEq κ]
def ze8(kvs:List (κ×V))(k:κ):Option V:=(kvs.find? fun kv=>decide (kv.1=k)).map (·.2)
def zfe(kvs:List (κ×V))(k:κ)(v:V):List (κ×V) :=
 if(kvs.any fun kv=>decide (kv.1=k))=true then kvs.map (fun kv=>if kv.1=k then (kv.1,v)else kv)else kvs++[(k,v)]
theorem zbf{p:κ×V}{r:List (κ×V)}{k:κ}(e:p.1=k):ze8 (p::r) k=some p.2:=by simp[ze8,List.find?_cons,e]
theorem zax{p:κ×V}{r:List (κ×V)}{k:κ}(e:¬ p.1=k):ze8 (p::r) k=ze8 r k:=by simp[ze8,List.find?_cons,e]
theorem zdv(k:κ):∀kvs:List (κ×V),(kvs.any fun kv=>decide (kv.1=k))=(ze8 kvs k).isSome
 | []=>rfl
 | p::r=>by
   rw[List.any_cons];by_cases e:p.1=k
   · simp only[zbf e,z1c e,Bool.true_or,Option.isSome_some]
   · rw[zax e,z1b e,Bool.false_or];exact zdv k r
theorem zcp(kvs:List (κ×V))(k:κ)(v:V):(zfe kvs k v).length<=kvs.length+1:=by
 unfold zfe;split
 · rw[z1q];omega
 · rw[z03,List.length_cons,List.length_nil];omega
theorem znb{kvs:List (κ×V)}{k:κ}(v:V)(h:ze8 kvs k=none):zfe kvs k v=kvs++[(k,v)]:=by unfold zfe;rw[zdv,h];exact z10 (by decide)
theorem RelO.isSome_eq{o:Option V}{u:Option Value}(r:RelO o u):o.isSome=u.isSome:=by
 cases o with
 | none=>cases u with
   |none=>rfl
   |some _=>exact(show False from r).elim
 | some _=>cases u with
   |none=>exact(show False from r).elim
   |some _=>rfl
theorem RelO.getD{o:Option V}{u:Option Value}{d:V}{d':Value}(r:RelO o u)(rd:RelV d d'):RelV (o.getD d) (u.getD d'):=by
 cases o with
 | none=>cases u with
   |none=>exact rd
   |some _=>exact(show False from r).elim
 | some _=>cases u with
   |none=>exact(show False from r).elim
   |some _=>exact r
theorem KV.val{kvs:List (κ×V)}{vs:List (κ×Value)}(r:KV kvs vs)(k:κ):RelO (ze8 kvs k) (valueAt vs k):=by
 unfold KV at r
 induction r with
 |nil=>exact True.intro
 | @cons p q ps qs h t ih=>
   obtain⟨h1,h2⟩:=h;by_cases e:p.1=k
   · have e':q.1=k:=h1.symm.trans e;have b:valueAt (q::qs) k=some q.2:=by simp[valueAt,List.find?_cons,e']
     rw[zbf e,b];exact h2
   · have e':¬ q.1=k:=fun z=>e (h1.trans z);have b:valueAt (q::qs) k=valueAt qs k:=by simp[valueAt,List.find?_cons,e']
     rw[zax e,b];exact ih
theorem KV.any{kvs:List (κ×V)}{vs:List (κ×Value)}(r:KV kvs vs)(k:κ):(kvs.any fun kv=>decide (kv.1=k))=vs.any fun kv=>decide (kv.1=k):=by
 unfold KV at r
 induction r with
 |nil=>rfl
 |cons h t ih=>rw[List.any_cons,List.any_cons,ih,h.1]
theorem KV.repl{kvs:List (κ×V)}{vs:List (κ×Value)}(r:KV kvs vs)(k:κ){y:V}{u:Value}(ry:RelV y u) :
   KV (kvs.map fun kv=>if kv.1=k then (kv.1,y)else kv) (vs.map fun kv=>if kv.1=k then (kv.1,u)else kv):=by
 unfold KV at r ⊢
 induction r with
 |nil=>exact .nil
 | @cons p q ps qs h t ih=>
   rw[z1g,z1g];refine .cons ?_ ih;obtain⟨h1,h2⟩:=h;by_cases e:p.1=k
   · rw[z1t e,z1t (h1.symm.trans e)];exact⟨h1,ry⟩
   · rw[z10 e,z10 (fun z=>e (h1.trans z))];exact⟨h1,h2⟩
theorem KV.put{kvs:List (κ×V)}{vs:List (κ×Value)}(r:KV kvs vs)(k:κ){y:V}{u:Value}(ry:RelV y u):KV (zfe kvs k y) (stored vs k u):=by
 unfold zfe stored;rw[r.any k];by_cases e:(vs.any fun kv=>decide (kv.1=k))=true
 · rw[z1t e,z1t e];exact r.repl k ry
 · rw[z10 e,z10 e];exact Paired.snoc r ⟨rfl,ry⟩
theorem KV.keys{kvs:List (κ×V)}{vs:List (κ×Value)}(r:KV kvs vs):kvs.map (·.1)=vs.map (·.1):=by
 unfold KV at r
 induction r with
 |nil=>rfl
 |cons h t ih=>rw[z1g,z1g,ih,h.1]
theorem KV.length{kvs:List (κ×V)}{vs:List (κ×Value)}(r:KV kvs vs):kvs.length=vs.length:=Paired.length r
end
theorem zlm{P:Program}{w:World}{k:Key}{u:Value}(r:RelV (kV k) u):(xb P w).is k u=true:=by
 cases k with
 |inl i=>obtain⟨t,e⟩:=(show ∃t,u=Value.int i t from r);subst e;exact zgw P w i t
 |inr x=>obtain⟨t,e⟩:=(show ∃t,u=Value.str x t from r);subst e;exact zgv P w x t
theorem zfr{P:Program}{w:World}:∀{ks:List Key}{us:List Value},Vals (ks.map kV) us->ItemsAre (xb P w) ks us
 | [],_,r=>by rw[List.map_nil]at r;cases r;exact .nil
 | k::ks,_,r=>by
   rw[z1g]at r;cases r with
   |cons h t=>exact .cons (zlm h) (zfr t)
abbrev KT(H:Hp):List (List Key×V)->List (List Key×Addr×Value)->Prop:=Paired fun p q=>p.1=q.1/\H q.2.1=some (.tup (p.1.map kV))/\RelV p.2 q.2.2
theorem KT.val{H:Hp}{kvs:List (List Key×V)}{xs:List (List Key×Addr×Value)}(r:KT H kvs xs)(k:List Key):RelO (ze8 kvs k) ((atKey xs k).map (·.2)):=by
 induction r with
 |nil=>exact True.intro
 | @cons p q ps qs h t ih=>
   obtain⟨h1,_,h2⟩:=h;by_cases e:p.1=k
   · have e':q.1=k:=h1.symm.trans e;have b:atKey (q::qs) k=some q.2:=by simp[atKey,List.find?_cons,e']
     rw[zbf e,b];exact h2
   · have e':¬ q.1=k:=fun z=>e (h1.trans z);have b:atKey (q::qs) k=atKey qs k:=by simp[atKey,List.find?_cons,e']
     rw[zax e,b];exact ih
theorem KT.repl{H:Hp}{kvs:List (List Key×V)}{xs:List (List Key×Addr×Value)}(r:KT H kvs xs)(k:List Key){y:V}{u:Value}(ry:RelV y u) :
   KT H (kvs.map fun kv=>if kv.1=k then (kv.1,y)else kv) (xs.map (putAt k u)):=by
 induction r with
 |nil=>exact .nil
 | @cons p q ps qs h t ih=>
   rw[z1g,z1g];refine .cons ?_ ih;obtain⟨h1,h2,h3⟩:=h;unfold putAt;by_cases e:p.1=k
   · rw[z1t e,z1t (h1.symm.trans e)];exact⟨h1,h2,ry⟩
   · rw[z10 e,z10 (fun z=>e (h1.trans z))];exact⟨h1,h2,h3⟩
theorem KT.put{H:Hp}{kvs:List (List Key×V)}{xs:List (List Key×Addr×Value)}(r:KT H kvs xs)(k:List Key){b:Addr}{y:V}{u:Value}(hb:H b=some (.tup (k.map kV)))(ry:RelV y u) :
   KT H (zfe kvs k y) (storedH xs k b u):=by
 have e:(kvs.any fun kv=>decide (kv.1=k))=(atKey xs k).isSome:=by rw[zdv,(r.val k).isSome_eq,Option.isSome_map]
 unfold zfe storedH;rw[e];by_cases q:(atKey xs k).isSome=true
 · rw[z1t q,z1t q];exact r.repl k ry
 · rw[z10 q,z10 q];exact Paired.snoc r ⟨rfl,hb,ry⟩
theorem KT.keeps{H H':Hp}{kvs:List (List Key×V)}{xs:List (List Key×Addr×Value)}(r:KT H kvs xs)(ht:∀b ys,H b=some (.tup ys)->H' b=some (.tup ys)):KT H' kvs xs :=
 Paired.mapP r fun _ _ z=>⟨z.1,ht _ _ z.2.1,z.2.2⟩
section
variable {P:Program}{w:World}{H:Hp}{h:Heap}{a:Addr}
theorem ztw{u:HO}(ok:HOk P w H h)(e:Rd H a u):ObjOk P w H h a u:=e.ok ok
theorem zha{kvs:List (Key×V)}(ok:HOk P w H h)(e:Rd H a (.dK kvs)):kvs.length<=sizeLine/\(a==sysModules)=false/\∃vs,KV kvs vs/\h.DictOf (xb P w) a vs :=
 show ObjOk P w H h a (.dK kvs)from ztw ok e
theorem zv7{kvs:List (Key×V)}(ok:HOk P w H h)(e:H a=some (.dK kvs)):kvs.length<=sizeLine/\(a==sysModules)=false/\∃vs,KV kvs vs/\h.DictOf (xb P w) a vs:=zha ok (.inl e)
theorem zfp{ks:List Key}(ok:HOk P w H h)(e:H a=some (.tup (ks.map kV))):(tupleKind (xb P w)).is h ks a:=by
 obtain⟨_,its,r,o,h1,h2,n,h3⟩:=(show ObjOk P w H h a (.tup (ks.map kV))from ok a _ e)
 exact⟨o,its.toArray,n,h1,h2,h3,by simpa using zfr r⟩
theorem zjk{kvs:List (List Key×V)}(ok:HOk P w H h)(e:Rd H a (.dT kvs)):kvs.length<=sizeLine/\(a==sysModules)=false /\
   ∃xs,KT H kvs xs/\h.DictOfH (tupleKind (xb P w)) a xs:=by
 obtain⟨z,y,xs,r,o,es,ep,h1,h2,h3,h4,h5⟩:=(show ObjOk P w H h a (.dT kvs)from ztw ok e)
 refine⟨z,y,xs,r,o,es,ep,h1,h2,h3,h4,fun x hx=>?_,h5⟩;have all:∀{l:List (List Key×V)}{m:List (List Key×Addr×Value)},KT H l m->∀x∈m,(tupleKind (xb P w)).is h x.1 x.2.1:=by
   intro l m q
   induction q with
   |nil=>intro x hx;exact nomatch hx
   | @cons p q ps qs hq t ih=>
     intro x hx;rcases z1e.mp hx with e | hx
     · subst e;exact zfp ok (by rw[<-hq.1];exact hq.2.1)
     · exact ih x hx
 exact all r x hx
theorem zy1{kvs:List (List Key×V)}(ok:HOk P w H h)(e:H a=some (.dT kvs)):kvs.length<=sizeLine/\(a==sysModules)=false /\
   ∃xs,KT H kvs xs/\h.DictOfH (tupleKind (xb P w)) a xs:=zjk ok (.inl e)
end
def DGet(H:Hp)(a:Addr)(y:V)(r:Option V):Prop :=
 (∃kvs k,Rd H a (.dK kvs)/\y=kV k/\r=ze8 kvs k)\/∃kvs k b,Rd H a (.dT kvs)/\y=.ref b/\H b=some (.tup (k.map kV))/\r=ze8 kvs k
def DPut(H:Hp)(a:Addr)(y v:V)(H':Hp):Prop :=
 (∃kvs k,H a=some (.dK kvs)/\y=kV k/\kvs.length<sizeLine/\H'=upd H a (.dK (zfe kvs k v))) \/
 ∃kvs k b,H a=some (.dT kvs)/\y=.ref b/\H b=some (.tup (k.map kV))/\kvs.length<sizeLine/\H'=upd H a (.dT (zfe kvs k v))
theorem DGet.k{H:Hp}{a:Addr}{kvs:List (Key×V)}{k:Key}(e:H a=some (.dK kvs)):DGet H a (kV k) (ze8 kvs k):=.inl ⟨kvs,k,.inl e,rfl,rfl⟩
theorem DPut.k{H:Hp}{a:Addr}{kvs:List (Key×V)}{k:Key}{v:V}(e:H a=some (.dK kvs))(hl:kvs.length<sizeLine):DPut H a (kV k) v (upd H a (.dK (zfe kvs k v))):=.inl ⟨kvs,k,e,rfl,hl,rfl⟩
section
variable {X:Cx}{pins:zAO}{σ:St}{H:Hp}{s:Shared}{a:Addr}{y v:V}{u r:Value}{o:Option V}{A:Around}{E:zVP}
theorem Inv.big(I:Inv X pins σ H s):sysModules<s.heap.objs.size:=by have h:mainGlobals<s.heap.objs.size:=(I.mod.glob.keeps I.bk).lt;exact Nat.lt_trans (by decide) h
theorem zl7{Q:zVP}(hu:A.units+1<cLine)(I:Inv X pins σ H s)(g:DGet H a y (some v))(ry:RelV y u)(h:∀w' s',Inv X pins σ H s'->RelV v w'->Q w' s') :
   wpAny (model X.prog X.w) A (getItem (.ref a) u) Q E s:=by
 rcases g with⟨kvs,k,e,ey,l⟩ | ⟨kvs,k,b,e,ey,eb,l⟩
 · subst ey;obtain⟨z,hd,vs,rel,dd⟩:=zha I.hok e;obtain⟨w',hw,rw'⟩:=RelO.some_of (v:=v) (o:=valueAt vs k) (by rw[l];exact rel.val k);exact wpAny_getItem_of (zlm ry) dd.mapOf hw (h w' _ (I.tok _) rw')
 · subst ey;cases(show u=Value.ref b from ry);obtain⟨z,hd,xs,rel,dd⟩:=zjk I.hok e;obtain⟨w',hw,rw'⟩:=RelO.some_of (v:=v) (o:=(atKey xs k).map (·.2)) (by rw[l];exact rel.val k);obtain⟨p,hp,hp2⟩:=Option.map_eq_some_iff.mp hw;refine wpAny_getItem_heap (z3l hu) (zfp I.hok eb) dd hp ?_;rw[hp2];exact h w' _ (I.tok _) rw'
theorem zsk{Q:zVP}(hu:A.units+1<cLine)(I:Inv X pins σ H s)(g:DGet H a y o)(ry:RelV y u)(h:∀s',Inv X pins σ H s'->Q (.bool (!o.isSome)) s') :
   wpAny (model X.prog X.w) A (compareOp .NotIn u (.ref a)) Q E s:=by
 rcases g with⟨kvs,k,e,ey,l⟩ | ⟨kvs,k,b,e,ey,eb,l⟩
 · subst ey;obtain⟨z,hd,vs,rel,dd⟩:=zha I.hok e;refine wpAny_notIn_of (zlm ry) hd dd.mapOf ?_;rw[<-(rel.val k).isSome_eq,<-l];exact h _ (I.tok _)
 · subst ey;cases(show u=Value.ref b from ry);obtain⟨z,hd,xs,rel,dd⟩:=zjk I.hok e;refine wpAny_notIn_heap (z3l hu) (zfp I.hok eb) hd dd ?_;have q:=(rel.val k).isSome_eq;rw[Option.isSome_map]at q;rw[<-q,<-l];exact h _ (I.tok _)
theorem zhc{h':Heap}{t':Nat}{ob:HO}(I:Inv X pins σ H s)(mu:Mut (H a))(hs:Heap.SameBut a s.heap h')(he:∃q,h'.get? a=some q)(new:ObjOk X.prog X.w (upd H a ob) h' a ob) :
   Inv X pins σ (upd H a ob) { s with heap:=h',toks:=t' } :=
 I.write (x:=a) (e:=a) mu (.inl rfl) (fun b q hb z=>(hs.2 b hb).trans z) he new
theorem zv8{P:Program}{w:World}{H':Hp}{h':Heap}{kvs:List (Key×V)}{vs:List (Key×Value)}(z:kvs.length<=sizeLine)(hd:(a==sysModules)=false)(rel:KV kvs vs)(dd:h'.DictOf (xb P w) a vs) :
   ObjOk P w H' h' a (.dK kvs):=⟨z,hd,vs,rel,dd⟩
theorem zl6{H':Hp}{Q:Unit->Shared->Prop}(hu:A.units+1<cLine)(I:Inv X pins σ H s)(g:DPut H a y v H')(ry:RelV y u)(rv:RelV v r)(h:∀s',Inv X pins σ H' s'->Q () s') :
   wpAny (model X.prog X.w) A (setItem (.ref a) u r) Q E s:=by
 rcases g with⟨kvs,k,e,ey,l,eH⟩ | ⟨kvs,k,b,e,ey,eb,l,eH⟩
 · subst ey eH;obtain⟨z,hd,vs,rel,dd⟩:=zv7 I.hok e;have hz:vs.length<=sizeLine:=by rw[<-rel.length];exact z
   have hl:(zfe kvs k v).length<=sizeLine:=by have:=zcp kvs k v;omega
   refine wpAny_setItem_pairs (hsz:=hz) (zlm ry) dd fun h' dd' hs=>h _ ?_;have he:∃q,h'.get? a=some q:=let⟨q,_,_,hq,_⟩:=dd';⟨q,hq⟩;exact zhc I (by rw[e];exact True.intro) hs he (zv8 hl hd (rel.put k rv) dd')
 · subst ey eH;cases(show u=Value.ref b from ry);obtain⟨z,hd,xs,rel,dd⟩:=zy1 I.hok e;have hz:xs.length<=sizeLine:=by rw[<-Paired.length rel];exact z
   have hl:(zfe kvs k v).length<=sizeLine:=by have:=zcp kvs k v;omega
   refine wpAny_setItem_heap (hsz:=hz) (z3l hu) (zfp I.hok eb) dd fun h' dd' hs=>h _ ?_;obtain⟨q,es,ep,hq,h2,h3,h4,_,h5⟩:=dd';refine zhc I (by rw[e];exact True.intro) hs ⟨q,hq⟩ ⟨hl,hd,_,(rel.put k eb rv).keeps fun c ys ec=>?_,q,es,ep,hq,h2,h3,h4,h5⟩;rw[qg (ne_of ec e (fun z=>nomatch z))];exact ec
end
section
variable {X:Cx}{pins:zAO}{σ:St}{H:Hp}{s:Shared}{a:Addr}{kvs:List (Key×V)}{k:Key}{u:Value}{A:Around}{E:zVP}
theorem zy3{Q:zVP}(I:Inv X pins σ H s)(e:Rd H a (.dK kvs))(h:∀t s',Inv X pins σ H s'->Q (.int kvs.length t) s'):wpAny (model X.prog X.w) A (call (.builtin "len") [.ref a]) Q E s:=by obtain⟨z,hd,vs,rel,dd⟩:=zha I.hok e;refine call_len_dict hd dd (by rw[<-rel.length];rw[z14]at z;omega) ?_;rw[<-rel.length];exact h _ _ (I.tok _)
end
def zzh(i:Expr):Prop:=∀ov iv,subscripted i false ov iv=operate [ov,iv] (getItem ov iv)
theorem zqk{prog:Program}{w:World}{A:Around}{E:zVP}{s:Shared}{env:Env}{value slice:Expr}{pos:Pos}{T id:String}{Q:zVP}
   (hl:typeLookup (.type T) "__getitem__"=pure (some (.builtin id))) (hs:zzh slice)
   (h:wpAny (model prog w) A (eval value env) (fun o s₁=>wpAny (model prog w) A (eval slice env) (fun i s₂=>s₂.TypeIs o T/\wpAny (model prog w) A (getItem o i) Q E s₂) E s₁) E s) :
   wpAny (model prog w) A (eval (.Subscript value slice pos) env) Q E s:=by
 refine Subscript_ (z24 h (fun o s₁ h₁=>z24 h₁ (fun i s₂ h₂=>?_) fun _ _ x=>x) fun _ _ x=>x);obtain⟨hT,h₂⟩:=h₂;unfold subscriptTail;refine z1v ?_;rw[getitemInPython_of_ne hT.not_modules];refine z1v (wpAny_specialOf hT hl ?_);have fin:wpAny (model prog w) A (subscripted slice false o i) (fun r s₃=>wpAny (model prog w) A (letTemporaryGo value o r >>= fun _=>pure r) Q E s₃) E s₂:=by rw[hs o i];exact wpAny_operating (z24 h₂ (fun r s₃ h₃=>z1v (wpAny_letTemporaryGo (z2p h₃))) fun _ _ x=>x)
 first
   |exact z2p (z1v fin)
   |exact z1v (z2p (z1v fin))
   |exact z1v fin
theorem zhb{X:Cx}{pins:zAO}{σ:St}{H:Hp}{s:Shared}{a:Addr}{y:V}{o:Option V}(I:Inv X pins σ H s)(g:DGet H a y o):s.TypeIs (.ref a) "dict":=by
 rcases g with⟨kvs,k,e,_,_⟩ | ⟨kvs,k,b,e,_,_,_⟩
 · obtain⟨_,_,vs,_,dd⟩:=zha I.hok e;exact dd.typeIs
 · obtain⟨_,_,xs,_,dd⟩:=zjk I.hok e;exact dd.typeIs
def zxj(td ty:TE):TE:=fun σ H Q=>td σ H fun x H1=>ty σ H1 fun y H2=>∃a v,x=.ref a/\DGet H2 a y (some v)/\Q v H2
def zxs(td ty tv:TE):TS:=fun D σ H=>tv σ H fun v H1=>td σ H1 fun x H2=>ty σ H2 fun y H3=>∃a H4,x=.ref a/\DPut H3 a y v H4/\D.nx σ H4
section
variable {X:Cx}{o i e value:Expr}{pos pos' tpos:Pos}{td ty tv:TE}
theorem zq8(hu:X.A.units+1<cLine)(ho:PE X o td)(hi:PE X i ty)(hs:zzh i):PE X (.Subscript o i pos) (zxj td ty):=by intro pins s σ H Q I h;refine zqk PySem.F.slot_dict_getitem.lookup hs (thn (ho pins s σ H _ I h) fun u s1 ⟨x,H1,I1,rx,q1⟩=>thn (hi pins s1 σ H1 _ I1 q1) fun iv s2 ⟨y,H2,I2,ry,a,v,ex,g,q2⟩=>?_);subst ex;obtain rfl:u=Value.ref a:=rx;exact⟨zhb I2 g,zl7 hu I2 g ry fun w' s3 I3 rw'=>⟨v,H2,I3,rw',q2⟩⟩
theorem zkt(hu:X.A.units+1<cLine)(ho:PE X o td)(hi:PE X i ty)(hv:PE X value tv)(hs:swapsWith value (some (.Subscript o i pos')) pos.line X.env=pure false) :
   PS X (.Assign [.Subscript o i pos'] value pos) (zxs td ty tv):=by
 intro pins s σ H D I h;refine wpAny_Assign_Subscript (thn (hv pins s σ H _ I h) fun r s1 ⟨v,H1,I1,rv,q1⟩=>thn (ho pins s1 σ H1 _ I1 q1) fun u s2 ⟨x,H2,I2,rx,q2⟩=>thn (hi pins s2 σ H2 _ I2 q2) fun iv s3 ⟨y,H3,I3,ry,a,H4,ex,g,q3⟩=>?_) hs;subst ex;obtain rfl:u=Value.ref a:=rx;exact zl6 hu I3 g ry rv fun s4 I4=>⟨σ,H4,I4,q3⟩
end
theorem zod{P:Program}{w:World}{H:Hp}(h:Heap)(hb:sysModules<h.objs.size):ObjOk P w H (h.push { cls:=.type "dict",data:=.dict #[] }) h.objs.size (.dK []) :=
 ⟨z1y _,z2z.mpr (z3v (z1o hb)),[],.nil,Heap.DictOf.new h⟩
def ztk:TE:=fun _ H Q=>∀p,H p=none->Q (.ref p) (upd H p (.dK []))
section
variable {X:Cx}{pos:Pos}
theorem znj:PE X (.Dict [] [] pos) ztk:=fun pins s σ H Q I h=>
 wpAny_Dict_empty ⟨.ref s.heap.objs.size,_,I.laid (a:=s.heap.objs.size) (o:=.dK []) (t':=s.toks) (fun _ _ q=>z1i _ q) (z07 _) (zod s.heap I.big),rfl,h _ (I.hok.fresh (z07 _))⟩
end
structure M2 (X:Cx) (o:Expr) (m:Str) (apos:Pos) (e f:Expr) (cpos:Pos):Prop where
 base:attributeBase o m X.env (eval o X.env)=eval o X.env
 few:((backTo cpos (starEach [e,f] X.env)).all (fun x=>!x.1)&&(backToKw cpos (keywordEach [] X.env)).all (fun x=>x.1.isSome)
   && decide (([e,f]:List Expr).length+([]:List Keyword).length+(if([]:List Keyword).isEmpty then 0 else 1)<30))=true
 line:(apos.endLine==cpos.line)=true
 trees:backTo cpos (starEach [e,f] X.env)=[(false,eval e X.env),(false,eval f X.env)]
def IsD(H:Hp)(a:Addr):Prop:=(∃kvs,Rd H a (.dK kvs))\/∃kvs,Rd H a (.dT kvs)
theorem zvd{X:Cx}{pins:zAO}{σ:St}{H:Hp}{s:Shared}{a:Addr}(I:Inv X pins σ H s)(d:IsD H a) :
   s.TypeIs (.ref a) "dict"/\(∀b,Value.ref a=.ref b->∃ob,s.heap.get? b=some ob/\ob.dict=none)/\(a==sysModules)=false:=by
 rcases d with⟨kvs,e⟩ | ⟨kvs,e⟩
 · obtain⟨_,hd,vs,_,dd⟩:=zha I.hok e;refine⟨dd.typeIs,fun b q=>?_,hd⟩;cases q;obtain⟨ob,_,_,h1,h2,_⟩:=dd;exact⟨ob,h1,h2.2.1⟩
 · obtain⟨_,hd,xs,_,dd⟩:=zjk I.hok e;refine⟨dd.typeIs,fun b q=>?_,hd⟩;cases q;obtain⟨ob,_,_,h1,h2,_⟩:=dd;exact⟨ob,h1,h2.2.1⟩
section
variable {X:Cx}{pins:zAO}{σ:St}{H:Hp}{s:Shared}{a:Addr}{y d:V}{u r:Value}{o:Option V}{A:Around}{E:zVP}
theorem zwa{Q:zVP}(hu:A.units+1<cLine)(I:Inv X pins σ H s)(g:DGet H a y o)(ry:RelV y u)(rd:RelV d r)(h:∀w' s',Inv X pins σ H s'->RelV (o.getD d) w'->Q w' s') :
   wpAny (model X.prog X.w) A (call (.builtin "dict.get") [.ref a,u,r]) Q E s:=by
 rcases g with⟨kvs,k,e,ey,l⟩ | ⟨kvs,k,b,e,ey,eb,l⟩
 · subst ey;obtain⟨z,hd,vs,rel,dd⟩:=zha I.hok e;refine call_meetsIn z3t dd.typeIs PySem.F.entry_dict_get (PySem.F.args_dict_get_3 _ _ _) (meets_dict_get_default (xb X.prog X.w) a (zlm ry) hd r) ⟨_,dd.mapOf,h _ _ (I.tok _) ?_⟩;rw[l];exact(rel.val k).getD rd
 · subst ey;cases(show u=Value.ref b from ry);obtain⟨z,hd,xs,rel,dd⟩:=zjk I.hok e;refine call_meetsIn z3t dd.typeIs PySem.F.entry_dict_get (PySem.F.args_dict_get_3 _ _ _) (meetsH_dict_get_default (tupleKind (xb X.prog X.w)) a b hd r) ⟨z3l hu,k,xs,zfp I.hok eb,dd,h _ _ (I.tok _) ?_⟩;rw[l];exact(rel.val k).getD rd
end
def ztl(td ty tx:TE):TE:=fun σ H Q=>td σ H fun x H1=>∃a,x=.ref a/\IsD H1 a/\ty σ H1 fun y H2=>tx σ H2 fun z H3=>∃o,DGet H3 a y o/\Q (o.getD z) H3
section
variable {X:Cx}{o e f:Expr}{apos cpos:Pos}{td ty tx:TE}
theorem znk(hu:X.A.units+1<cLine)(ho:PE X o td)(he:PE X e ty)(hf:PE X f tx)(m:M2 X o "get" apos e f cpos):PE X (.Call (.Attribute o "get" apos) [e,f] [] cpos) (ztl td ty tx):=by
 intro pins s σ H Q I h;refine wpAny_Call_method m.base m.few m.line PySem.F.plainAttrs_dict z3t PySem.F.type_dict_get (thn (ho pins s σ H _ I h) fun u s1 ⟨x,H1,I1,rx,a,ex,d,q1⟩=>?_);subst ex;obtain rfl:u=Value.ref a:=rx;obtain⟨t1,t2,_⟩:=zvd I1 d;refine⟨t1,t2,?_⟩;rw[m.trees];refine z3q rfl (Calls.evalArgs_plain (z35 (thn (he pins s1 σ H1 _ I1 q1) fun iv s2 ⟨y,H2,I2,ry,q2⟩=>
   z35 (thn (hf pins s2 σ H2 _ I2 q2) fun fv s3 ⟨z,H3,I3,rz,ov,g,q3⟩=>Calls.spliced_nil ?_))))
 exact zwa hu I3 g ry rz fun w' s4 I4 rw'=>⟨_,H3,I4,rw',q3⟩
end
end L2
namespace F
open PySem L2
def zuv:Expr->Bool
 | .Starred ..=>false
 |_=>true
theorem q0{e:Expr}{es:List Expr}{env:Env}(h:zuv e=true):starEach (e::es) env=(false,eval e env)::starEach es env:=by cases e<;>first | rfl | cases h
theorem ju{pos:Pos}{env:Env}:∀{es:List Expr},es.all zuv=true->(backTo pos (starEach es env)).any (·.1)=false
 | [],_=>rfl
 | e::es,h=>by rw[List.all_cons,z15]at h;rw[q0 h.1];show(false||(backTo pos (starEach es env)).any (·.1))=false;rw[ju h.2];rfl
structure LT where
 params:Arguments
 body:Expr
 scope:Scope
 qual:Str
 caps:List Str:=[]
 cl:zLA:=[]
inductive D where
 |non | bl (b:Bool) | int (i:Int) | str (x:Str) | fn (x:Str) | ty (n:String)
 |tup (ds:List D) | lst (ds:List D) | obj (i:Nat) | lam (t:LT) | clo (t:LT) (vs:List D)
inductive MO where
 |lst (ds:List D) | ins (c:Str) (fs:List (Str×D)) | dct (kvs:List (Int×D)) | fdc (kvs:List (Int×D)) | exc (c:Str) | tab (x q:Str)
abbrev Sto:=List MO
abbrev Ev:=List (Option D)
abbrev E:=Ev->Sto->Option (D×Sto)
abbrev B:=Ev->Sto->Option (Bool×Sto)
abbrev As:=Ev->Sto->Option (List D×Sto)
abbrev G:=List D->Sto->Option (D×Sto)
inductive Out where
 |nx (e:Ev) | rt (d:D) | bk (e:Ev) | ct (e:Ev)
abbrev C:=Ev->Sto->Option (Out×Sto)
def TupAt(K:zFr)(ρ:List Addr)(H:Hp)(p:Addr)(vs:List V):Prop :=
 (p∉ρ/\Rd H p (.tup vs))\/∃(o:Obj) (its:Array Value) (n:Nat),K.lookup p=some o/\o.cls=.type "tuple"/\o.data=.seq its n/\its.size<=sizeLine/\Vals vs its.toList
def LstAt(K:zFr)(ρ:List Addr)(H:Hp)(p:Addr)(vs:List V):Prop :=
 (p∉ρ/\Rd H p (.lst vs))\/∃(o:Obj) (its:Array Value) (n:Nat),K.lookup p=some o/\o.cls=.type "list"/\o.dict=none/\o.data=.seq its n/\its.size<=sizeLine/\Vals vs its.toList
theorem TupAt.sq{K ρ H p vs}(h:TupAt K ρ H p vs):SqT K H p vs:=by
 rcases h with⟨_,h⟩ | h
 · exact .inl h
 · exact .inr h
theorem LstAt.sq{K ρ H p vs}(h:LstAt K ρ H p vs):SqL K H p vs:=by
 rcases h with⟨_,h⟩ | h
 · exact .inl h
 · exact .inr h
def za4(c:Addr)(q:Str):Heap->Prop:=fun h=>h.CodeRec (.ref c) q
def zw1(t:LT)(a c:Addr)(pm ct:Value):Heap->Prop:=fun h=>h.get? a=some (PySem.W.kla_obj "<lambda>" t.qual t.params t.body t.scope t.cl pm c ct)
def LamAt(ρ:List Addr)(H:Hp)(t:LT)(a:Addr):Prop:=a∉ρ/\∃c pm ct,c∉ρ/\H a=some (.ext (zw1 t a c pm ct))/\H c=some (.ext (za4 c t.qual))
def zoi(t:LT)(cl:zLA)(a c:Addr)(pm ct:Value):Heap->Prop:=fun h=>h.get? a=some (PySem.W.kla_obj "<lambda>" t.qual t.params t.body t.scope cl pm c ct)
def Cells(ρ:List Addr)(H:Hp):List Str->List V->zLA->Prop
 | [],[],[]=>True
 |x::xs,u::us,p::cl=>p.1=x/\p.2∉ρ/\(∃(o:Obj) (w:Value),H p.2=some (.frz o (.own 0))/\o.data=.cell (some w)/\RelV u w)/\Cells ρ H xs us cl
 |_,_,_=>False
def CloAt(ρ:List Addr)(H:Hp)(t:LT)(us:List V)(a:Addr):Prop:=a∉ρ/\∃c pm ct cl,c∉ρ/\H a=some (.ext (zoi t cl a c pm ct))/\H c=some (.ext (za4 c t.qual))/\(cl.map (·.2)).Nodup/\Cells ρ H t.caps us cl
section
variable (K:zFr) (mg:zMg)
mutual
def Rep(ρ:List Addr)(H:Hp):D->V->Prop
 | .non,v=>v=.non
 | .bl b,v=>v=.bl b
 | .int i,v=>v=.int i
 | .str x,v=>v=.str x
 | .fn x,v=>∃a,v=.ref a/\mg x=some (.ref a)
 | .ty n,v=>v=.ty n
 | .tup ds,v=>∃p vs,v=.ref p/\TupAt K ρ H p vs/\RepL ρ H ds vs
 | .lst ds,v=>∃p vs,v=.ref p/\LstAt K ρ H p vs/\RepL ρ H ds vs
 | .obj i,v=>∃a,v=.ref a/\ρ[i]? = some a
 | .lam t,v=>∃a,v=.ref a/\LamAt ρ H t a
 | .clo t vs,v=>∃a us,v=.ref a/\CloAt ρ H t us a/\RepL ρ H vs us
def RepL(ρ:List Addr)(H:Hp):List D->List V->Prop
 | [],vs=>vs=[]
 |d::ds,vs=>∃v r,vs=v::r/\Rep ρ H d v/\RepL ρ H ds r
end
end
structure Ext (ρ:List Addr) (H:Hp) (ρ':List Addr) (H':Hp):Prop where
 pre:∀(i:Nat) (a:Addr),ρ[i]? = some a->ρ'[i]? = some a
 keep:∀b o,H b=some o->b∉ρ->H' b=some o
 new:∀b,b∈ρ'->b∉ρ->H b=none
 frz:∀b o v,b∈ρ->H b=some (.frz o (.dK v))->H' b=some (.frz o (.dK v))
def nfz:HO->Bool
 | .frz _ _=>false
 |_=>true
theorem Ext.refl(ρ:List Addr)(H:Hp):Ext ρ H ρ H:=⟨fun _ _ h=>h,fun _ _ h _=>h,fun _ h n=>absurd h n,fun _ _ _ _ h=>h⟩
theorem Ext.out{ρ ρ' H H'}(e:Ext ρ H ρ' H'){b:Addr}{o:HO}(h:H b=some o)(n:b∉ρ):b∉ρ':=fun z=>by have:=e.new b z n;rw[h]at this;cases this
theorem Ext.trans {ρ ρ' ρ'' H H' H''} (a:Ext ρ H ρ' H') (b:Ext ρ' H' ρ'' H''):Ext ρ H ρ'' H'' where
 pre:=fun i x h=>b.pre i x (a.pre i x h)
 keep:=fun c o h n=>b.keep c o (a.keep c o h n) (a.out h n)
 new:=fun c h n=>by
   by_cases z:c∈ρ'
   · exact a.new c z n
   · cases q:H c with
     |none=>rfl
     | some o=>
       have:=a.keep c o q n;rw[b.new c h z]at this;cases this
 frz:=fun c o v h e=>by obtain⟨i,hi,ei⟩:=z2k h;exact b.frz c o v (z1m (a.pre i c (by rw[z08 hi,ei]))) (a.frz c o v h e)
section
variable {K:zFr}{mg:zMg}{ρ ρ':List Addr}{H H':Hp}
theorem TupAt.mono{p vs}(h:TupAt K ρ H p vs)(e:Ext ρ H ρ' H'):TupAt K ρ' H' p vs:=by
 rcases h with⟨n,h | ⟨o,h⟩⟩ | h
 · exact .inl ⟨e.out h n,.inl (e.keep _ _ h n)⟩
 · exact .inl ⟨e.out h n,.inr ⟨o,e.keep _ _ h n⟩⟩
 · exact .inr h
theorem LstAt.mono{p vs}(h:LstAt K ρ H p vs)(e:Ext ρ H ρ' H'):LstAt K ρ' H' p vs:=by
 rcases h with⟨n,h | ⟨o,h⟩⟩ | h
 · exact .inl ⟨e.out h n,.inl (e.keep _ _ h n)⟩
 · exact .inl ⟨e.out h n,.inr ⟨o,e.keep _ _ h n⟩⟩
 · exact .inr h
theorem LamAt.mono{t a}(h:LamAt ρ H t a)(e:Ext ρ H ρ' H'):LamAt ρ' H' t a:=by obtain⟨n,c,pm,ct,nc,h1,h2⟩:=h;exact⟨e.out h1 n,c,pm,ct,e.out h2 nc,e.keep _ _ h1 n,e.keep _ _ h2 nc⟩
theorem Cells.mono(e:Ext ρ H ρ' H'):∀{xs:List Str}{us:List V}{cl:zLA},Cells ρ H xs us cl->Cells ρ' H' xs us cl
 | [],[],[],_=>trivial
 | x::xs,u::us,p::cl,h=>by obtain⟨h1,h2,⟨o,w,h3,h4⟩,h5⟩:=h;exact⟨h1,e.out h3 h2,⟨o,w,e.keep _ _ h3 h2,h4⟩,Cells.mono e h5⟩
 | [],[],_::_,h=>h.elim
 | [],_::_,_,h=>h.elim
 |_::_,[],_,h=>h.elim
 |_::_,_::_,[],h=>h.elim
theorem CloAt.mono{t us a}(h:CloAt ρ H t us a)(e:Ext ρ H ρ' H'):CloAt ρ' H' t us a:=by obtain⟨n,c,pm,ct,cl,nc,h1,h2,h3,h4⟩:=h;exact⟨e.out h1 n,c,pm,ct,cl,e.out h2 nc,e.keep _ _ h1 n,e.keep _ _ h2 nc,h3,h4.mono e⟩
mutual
theorem Rep.mono(e:Ext ρ H ρ' H'):∀{d:D}{v:V},Rep K mg ρ H d v->Rep K mg ρ' H' d v
 | .non,_,h=>h
 | .bl _,_,h=>h
 | .int _,_,h=>h
 | .str _,_,h=>h
 | .fn _,_,h=>h
 | .ty _,_,h=>h
 | .tup ds,_,h=>by unfold Rep at h ⊢;obtain⟨p,vs,e1,t,r⟩:=h;exact⟨p,vs,e1,t.mono e,RepL.mono e r⟩
 | .lst ds,_,h=>by unfold Rep at h ⊢;obtain⟨p,vs,e1,t,r⟩:=h;exact⟨p,vs,e1,t.mono e,RepL.mono e r⟩
 | .obj i,_,h=>by unfold Rep at h ⊢;obtain⟨a,e1,t⟩:=h;exact⟨a,e1,e.pre _ _ t⟩
 | .lam t,_,h=>by unfold Rep at h ⊢;obtain⟨a,e1,t⟩:=h;exact⟨a,e1,t.mono e⟩
 | .clo t vs,_,h=>by unfold Rep at h ⊢;obtain⟨a,us,e1,t,r⟩:=h;exact⟨a,us,e1,t.mono e,RepL.mono e r⟩
theorem RepL.mono(e:Ext ρ H ρ' H'):∀{ds:List D}{vs:List V},RepL K mg ρ H ds vs->RepL K mg ρ' H' ds vs
 | [],_,h=>h
 | d::ds,_,h=>by unfold RepL at h ⊢;obtain⟨v,r,e1,h1,h2⟩:=h;exact⟨v,r,e1,Rep.mono e h1,RepL.mono e h2⟩
end
theorem RepL.nil:RepL K mg ρ H [] []:=by unfold RepL;rfl
theorem RepL.cons{d ds v vs}(h:Rep K mg ρ H d v)(t:RepL K mg ρ H ds vs):RepL K mg ρ H (d::ds) (v::vs):=by unfold RepL;exact⟨v,vs,rfl,h,t⟩
theorem RepL.length:∀{ds:List D}{vs:List V},RepL K mg ρ H ds vs->ds.length=vs.length
 | [],_,h=>by unfold RepL at h;subst h;rfl
 | d::ds,_,h=>by unfold RepL at h;obtain⟨v,r,rfl,_,h2⟩:=h;rw[List.length_cons,List.length_cons,h2.length]
theorem RepL.get:∀{ds:List D}{vs:List V}{i:Nat}{d:D},RepL K mg ρ H ds vs->ds[i]? = some d->∃v,vs[i]? = some v/\Rep K mg ρ H d v
 | [],_,_,_,_,e=>by simp at e
 | d::ds,_,0,x,h,e=>by unfold RepL at h;obtain⟨v,r,rfl,h1,_⟩:=h;simp at e;subst e;exact⟨v,rfl,h1⟩
 | d::ds,_,i+1,x,h,e=>by unfold RepL at h;obtain⟨v,r,rfl,_,h2⟩:=h;obtain⟨u,e1,e2⟩:=RepL.get (i:=i) (d:=x) h2 (by simpa using e);exact⟨u,by simpa using e1,e2⟩
theorem RepL.append:∀{ds es:List D}{vs us:List V},RepL K mg ρ H ds vs->RepL K mg ρ H es us->RepL K mg ρ H (ds++es) (vs++us)
 | [],_,_,_,h,t=>by unfold RepL at h;subst h;exact t
 | d::ds,_,_,_,h,t=>by unfold RepL at h;obtain⟨v,r,rfl,h1,h2⟩:=h;exact RepL.cons h1 (RepL.append h2 t)
theorem RepL.take:∀{ds:List D}{vs:List V} (n:Nat),RepL K mg ρ H ds vs->RepL K mg ρ H (ds.take n) (vs.take n)
 |_,_,0,_=>by simpa using RepL.nil
 | [],_,_+1,h=>by unfold RepL at h;subst h;simpa using RepL.nil
 | d::ds,_,n+1,h=>by unfold RepL at h;obtain⟨v,r,rfl,h1,h2⟩:=h;exact RepL.cons h1 (RepL.take n h2)
end
def zs7(K:zFr)(mg:zMg)(ρ:List Addr)(H:Hp)(fs:List (Str×D))(vs:List (Str×V)):Prop :=
 vs.map (·.1)=fs.map (·.1)/\RepL K mg ρ H (fs.map (·.2)) (vs.map (·.2))
def zsx(K:zFr)(mg:zMg)(x:Str)(a:Addr):Prop:=∃(f:Addr) (o:Obj) (fd:FuncData) (c:Addr),mg x=some (.ref f)/\K.lookup f=some o/\o.data=.func fd/\fd.code=.ref c/\PySem.W.codeHdIn K c a=true
def MOk(K:zFr)(mg:zMg)(ρ:List Addr)(H:Hp)(a:Addr):MO->Prop
 | .lst ds=>∃vs,H a=some (.lst vs)/\RepL K mg ρ H ds vs
 | .ins c fs=>∃C dx vs,mg c=some (.ref C)/\H a=some (.ins C dx vs)/\zs7 K mg ρ H fs vs
 | .dct kvs=>∃vs:List (Key×V),H a=some (.dK vs)/\vs.map (·.1)=kvs.map (fun p=>Sum.inl p.1)/\RepL K mg ρ H (kvs.map (·.2)) (vs.map (·.2))
 | .fdc kvs=>∃(o:Obj) (vs:List (Key×V)),H a=some (.frz o (.dK vs))/\vs.map (·.1)=kvs.map (fun p=>Sum.inl p.1)/\RepL K mg ρ H (kvs.map (·.2)) (vs.map (·.2))
 | .exc c=>∃C,mg c=some (.ref C)/\H a=some (.ext fun h=>∃o,h.get? a=some o/\o.cls=.ref C)
 | .tab x q=>zsx K mg x a/\∃ps:Array Value,H a=some (.tbl ps)/\TriplesOk ps.toList/\∀(pos:Pos) (cv:Value),codeAmong pos ps.toList=some cv->∃c,cv=.ref c/\c∉ρ/\H c=some (.ext (za4 c q))
structure StOk (K:zFr) (mg:zMg) (ρ:List Addr) (H:Hp) (S:Sto):Prop where
 len:ρ.length=S.length
 nd:ρ.Nodup
 ob:∀(i:Nat) (m:MO) (a:Addr),S[i]? = some m->ρ[i]? = some a->MOk K mg ρ H a m
section
variable {K:zFr}{mg:zMg}{ρ ρ':List Addr}{H H':Hp}{S:Sto}
theorem MOk.mono{a m}(h:MOk K mg ρ H a m)(e:Ext ρ H ρ' H')(k:H' a=H a):MOk K mg ρ' H' a m:=by
 cases m with
 |lst ds=>obtain⟨vs,h1,h2⟩:=h;exact⟨vs,k.trans h1,h2.mono e⟩
 |ins c fs=>obtain⟨C,dx,vs,h0,h1,h2,h3⟩:=h;exact⟨C,dx,vs,h0,k.trans h1,h2,h3.mono e⟩
 |dct kvs=>obtain⟨vs,h1,h2,h3⟩:=h;exact⟨vs,k.trans h1,h2,h3.mono e⟩
 |fdc kvs=>obtain⟨o,vs,h1,h2,h3⟩:=h;exact⟨o,vs,k.trans h1,h2,h3.mono e⟩
 |exc c=>obtain⟨C,h1,h2⟩:=h;exact⟨C,h1,k.trans h2⟩
 | tab x q=>
   obtain⟨h0,ps,h1,h2,h3⟩:=h;exact⟨h0,ps,k.trans h1,h2,fun pos cv z=>let⟨c,z1,z2,z3⟩:=h3 pos cv z;⟨c,z1,e.out z3 z2,e.keep _ _ z3 z2⟩⟩
theorem MOk.some{a m}(h:MOk K mg ρ H a m):∃o,H a=some o:=by
 cases m with
 |lst ds=>obtain⟨vs,h1,h2⟩:=h;exact⟨_,h1⟩
 |ins c fs=>obtain⟨C,dx,vs,h0,h1,h2,h3⟩:=h;exact⟨_,h1⟩
 |dct kvs=>obtain⟨vs,h1,h2,h3⟩:=h;exact⟨_,h1⟩
 |fdc kvs=>obtain⟨o,vs,h1,h2,h3⟩:=h;exact⟨_,h1⟩
 |exc c=>obtain⟨C,h1,h2⟩:=h;exact⟨_,h2⟩
 |tab x q=>obtain⟨_,ps,h1,_⟩:=h;exact⟨_,h1⟩
theorem StOk.at(s:StOk K mg ρ H S){i:Nat}{a:Addr}(h:ρ[i]? = some a):∃m,S[i]? = some m/\MOk K mg ρ H a m:=by
 have hi:i<ρ.length:=(z06.mp h).1;have hj:i<S.length:=by rw[<-s.len];exact hi
 exact⟨S[i],z08 hj,s.ob i _ a (z08 hj) h⟩
theorem StOk.adr(s:StOk K mg ρ H S){i:Nat}{m:MO}(h:S[i]? = some m):∃a,ρ[i]? = some a/\MOk K mg ρ H a m:=by
 have hi:i<S.length:=(z06.mp h).1;have hj:i<ρ.length:=by rw[s.len];exact hi
 exact⟨ρ[i],z08 hj,s.ob i m _ h (z08 hj)⟩
theorem StOk.mem(s:StOk K mg ρ H S){a}(h:a∈ρ):∃o,H a=some o:=by obtain⟨i,hi,e⟩:=List.mem_iff_getElem.mp h;obtain⟨m,_,q⟩:=s.at (i:=i) (a:=a) (by rw[z08 hi,e]);exact q.some
theorem StOk.fresh(s:StOk K mg ρ H S){p}(h:H p=none):p∉ρ:=fun z=>by obtain⟨o,e⟩:=s.mem z;rw[h]at e;cases e
theorem kf(s:StOk K mg ρ H S){p:Addr}(o:HO)(h:H p=none):Ext ρ H ρ (upd H p o) :=
 ⟨fun _ _ e=>e,fun b u e _=>by rw[qg (qy e h)];exact e,fun _ z n=>absurd z n,fun b u v _ e=>by rw[qg (qy e h)];exact e⟩
theorem StOk.new(s:StOk K mg ρ H S){p:Addr}(o:HO)(h:H p=none):StOk K mg ρ (upd H p o) S :=
 ⟨s.len,s.nd,fun i m a e1 e2=>by
   have q:=s.ob i m a e1 e2;obtain⟨u,z⟩:=q.some;exact q.mono (kf s o h) (qg (qy z h))⟩
theorem zbc(s:StOk K mg ρ H S){i:Nat}{a:Addr}(o:HO)(h:ρ[i]? = some a)(hz:∃u,H a=some u/\nfz u=true:=by exact⟨_,by assumption,rfl⟩):Ext ρ H ρ (upd H a o) :=
 ⟨fun _ _ e=>e,fun b u e n=>by rw[qg (fun(z:b=a)=>n (by rw[z];exact z1m h))];exact e,fun _ z n=>absurd z n,fun b u v _ e=>by
   obtain⟨q,hq,hn⟩:=hz;rw[qg (fun(z:b=a)=>by rw[z,hq]at e;cases e;cases hn)];exact e⟩
theorem zic{l:List Addr}(hN:l.Nodup){i j:Nat}{x:Addr}(a:l[i]? = some x)(b:l[j]? = some x):i=j:=by obtain⟨h1,e1⟩:=z06.mp a;obtain⟨h2,e2⟩:=z06.mp b;exact(z4a hN).mp (e1.trans e2.symm)
theorem StOk.set(s:StOk K mg ρ H S){i:Nat}{a:Addr}{o:HO}{m:MO}(h:ρ[i]? = some a)(q:MOk K mg ρ (upd H a o) a m)(hz:∃u,H a=some u/\nfz u=true:=by exact⟨_,by assumption,rfl⟩):StOk K mg ρ (upd H a o) (S.set i m):=by
 refine⟨by rw[z2s];exact s.len,s.nd,fun j m' b e1 e2=>?_⟩;by_cases hj:j=i
 · subst hj;have hi:j<S.length:=by rw[<-s.len];exact(z06.mp h).1
   rw[z17 hi]at e1;cases e1;rw[h]at e2;cases e2;exact q
 · rw[z2o (z3v hj)]at e1;exact(s.ob j m' b e1 e2).mono (zbc s o h hz) (qg fun z=>hj (zic s.nd (z▸e2) h))
theorem zao(s:StOk K mg ρ H S){p:Addr}(o:HO)(h:H p=none):Ext ρ H (ρ++[p]) (upd H p o) :=
 ⟨fun i a e=>by rw[z1k (z06.mp e).1];exact e,fun b u e _=>by rw[qg (qy e h)];exact e,
   fun b z n=>by
     rcases z1p.mp z with z | z
     · exact absurd z n
     · rw[z05.mp z];exact h,
   fun b u v _ e=>by rw[qg (qy e h)];exact e⟩
theorem StOk.add(s:StOk K mg ρ H S){p:Addr}{o:HO}{m:MO}(h:H p=none)(q:MOk K mg (ρ++[p]) (upd H p o) p m):StOk K mg (ρ++[p]) (upd H p o) (S++[m]):=by
 refine⟨by rw[z03,z03,s.len]<;>rfl,?_,fun j m' b e1 e2=>?_⟩
 · rw[z2q];refine⟨s.nd,by simp,fun x hx y hy=>?_⟩;rw[z05.mp hy];exact fun z=>s.fresh h (z▸hx)
 · by_cases hj:j<S.length
   · rw[z1k hj]at e1;rw[z1k (by rw[s.len];exact hj)]at e2;have q:=s.ob j m' b e1 e2;obtain⟨u,z⟩:=q.some;exact q.mono (zao s o h) (qg (qy z h))
   · rw[z1a (by omega)]at e1;rw[z1a (by rw[s.len];omega)]at e2;have e0:j-S.length=0:=by have:=(z06.mp e1).1;simp at this;omega
     rw[e0]at e1;rw[s.len,e0]at e2;simp at e1 e2;subst e1 e2;exact q
theorem Rep.tup{p ds vs}{s:StOk K mg ρ H S}(h:H p=none)(r:RepL K mg ρ H ds vs):Rep K mg ρ (upd H p (.tup vs)) (.tup ds) (.ref p):=by unfold Rep;exact⟨p,vs,rfl,.inl ⟨s.fresh h,.inl ql⟩,r.mono (kf s _ h)⟩
theorem Rep.lst{p ds vs}{s:StOk K mg ρ H S}(h:H p=none)(r:RepL K mg ρ H ds vs):Rep K mg ρ (upd H p (.lst vs)) (.lst ds) (.ref p):=by unfold Rep;exact⟨p,vs,rfl,.inl ⟨s.fresh h,.inl ql⟩,r.mono (kf s _ h)⟩
end
structure EnvR (K:zFr) (mg:zMg) (ρ:List Addr) (H:Hp) (ev:Ev) (σ:St):Prop where
 len:ev.length=σ.length
 at_:∀(i:Nat) (d:D),ev[i]? = some (some d)->∃v,σ[i]? = some (some v)/\Rep K mg ρ H d v
section
variable {K:zFr}{mg:zMg}{ρ ρ':List Addr}{H H':Hp}{ev:Ev}{σ:St}
theorem EnvR.mono(h:EnvR K mg ρ H ev σ)(e:Ext ρ H ρ' H'):EnvR K mg ρ' H' ev σ :=
 ⟨h.len,fun i d q=>let⟨v,a,b⟩:=h.at_ i d q;⟨v,a,b.mono e⟩⟩
theorem EnvR.set(h:EnvR K mg ρ H ev σ){d v}(r:Rep K mg ρ H d v)(i:Nat):EnvR K mg ρ H (ev.set i (some d)) (σ.set i (some v)):=by
 refine⟨by rw[z2s,z2s];exact h.len,fun j x q=>?_⟩;by_cases hj:j=i
 · subst hj;have hi:j<ev.length:=by
     have:=(z06.mp q).1
     rwa [z2s]at this
   rw[z17 hi]at q;cases q;exact⟨v,by rw[z17 (by rw[<-h.len];exact hi)],r⟩
 · rw[z2o (z3v hj)]at q ⊢;exact h.at_ j x q
theorem EnvR.start{N:List Str}{ds:List D}{vs:List V}(h:RepL K mg ρ H ds vs):EnvR K mg ρ H (ds.map some++List.replicate (N.length-ds.length) none) (L2.start N vs):=by
 have hl:=h.length;refine⟨by unfold L2.start;simp[hl],fun i d q=>?_⟩;have hi:i<ds.length:=by
   by_cases hi:i<ds.length
   · exact hi
   · rw[z1a (by simpa using hi),List.getElem?_replicate]at q;split at q<;>cases q
 rw[z1k (by simpa using hi),z1r]at q;cases e:ds[i]? with
 |none=>rw[e]at q;cases q
 | some x=>
   rw[e]at q;cases q;obtain⟨v,e1,r⟩:=h.get e;refine⟨v,?_,r⟩;unfold L2.start;rw[z1k (by simpa [<-hl] using hi),z1r,e1];rfl
end
section
variable (K:zFr) (mg:zMg)
def tE(f:E):TE:=fun σ H Q=>∃ρ ev S d S',EnvR K mg ρ H ev σ/\StOk K mg ρ H S/\f ev S=some (d,S') /\
 ∀v ρ' H',Ext ρ H ρ' H'->StOk K mg ρ' H' S'->Rep K mg ρ' H' d v->Q v H'
def tB(f:B):TT:=fun σ H Q=>∃ρ ev S b S',EnvR K mg ρ H ev σ/\StOk K mg ρ H S/\f ev S=some (b,S') /\
 ∀ρ' H',Ext ρ H ρ' H'->StOk K mg ρ' H' S'->Q b H'
def tAs(f:As):TA:=fun σ H Q=>∃ρ ev S ds S',EnvR K mg ρ H ev σ/\StOk K mg ρ H S/\f ev S=some (ds,S') /\
 ∀vs ρ' H',Ext ρ H ρ' H'->StOk K mg ρ' H' S'->RepL K mg ρ' H' ds vs->Q vs H'
def Post(D:Ends)(S':Sto)(ρ:List Addr)(H:Hp):Out->Prop
 | .nx e=>∀σ' ρ' H',Ext ρ H ρ' H'->StOk K mg ρ' H' S'->EnvR K mg ρ' H' e σ'->D.nx σ' H'
 | .bk e=>∀σ' ρ' H',Ext ρ H ρ' H'->StOk K mg ρ' H' S'->EnvR K mg ρ' H' e σ'->D.bk σ' H'
 | .ct e=>∀σ' ρ' H',Ext ρ H ρ' H'->StOk K mg ρ' H' S'->EnvR K mg ρ' H' e σ'->D.ct σ' H'
 | .rt d=>∀v ρ' H',Ext ρ H ρ' H'->StOk K mg ρ' H' S'->Rep K mg ρ' H' d v->D.rt v H'
def tC(f:C):TS:=fun D σ H=>∃ρ ev S o S',EnvR K mg ρ H ev σ/\StOk K mg ρ H S/\f ev S=some (o,S')/\Post K mg D S' ρ H o
def spG(g:G):Sp:=fun vs H Q _=>∃ρ ds S d S',RepL K mg ρ H ds vs/\StOk K mg ρ H S/\g ds S=some (d,S') /\
 ∀v ρ' H',Ext ρ H ρ' H'->StOk K mg ρ' H' S'->Rep K mg ρ' H' d v->Q v H'
end
theorem Post.ext{K mg}{D:Ends}{S':Sto}{ρ ρ' H H'}(e:Ext ρ H ρ' H'):∀{o:Out},Post K mg D S' ρ H o->Post K mg D S' ρ' H' o
 | .nx _,h=>fun σ' _ _ e'=>h σ' _ _ (e.trans e')
 | .bk _,h=>fun σ' _ _ e'=>h σ' _ _ (e.trans e')
 | .ct _,h=>fun σ' _ _ e'=>h σ' _ _ (e.trans e')
 | .rt _,h=>fun v _ _ e'=>h v _ _ (e.trans e')
def FE(X:Cx)(e:Expr)(f:E):Prop:=PE X e (tE X.K X.mg f)
def FB(X:Cx)(e:Expr)(f:B):Prop:=PT X e (tB X.K X.mg f)
def FW(X:Cx)(e:Expr)(f:B):Prop:=PW X e (tB X.K X.mg f)
def FA(X:Cx)(es:List Expr)(f:As):Prop:=PA X es (tAs X.K X.mg f)
def FS(X:Cx)(st:Stmt)(f:C):Prop:=PS X st (tC X.K X.mg f)
def FSs(X:Cx)(st:List Stmt)(f:C):Prop:=PSs X st (tC X.K X.mg f)
theorem jc{X:Cx}{e:Expr}{t t':TE}(h:PE X e t)(m:∀σ H Q,t' σ H Q->t σ H Q):PE X e t':=fun pins s σ H Q I q=>h pins s σ H Q I (m _ _ _ q)
theorem zch{X:Cx}{e:Expr}{t t':TT}(h:PT X e t)(m:∀σ H Q,t' σ H Q->t σ H Q):PT X e t':=fun pins s σ H Q I q=>h pins s σ H Q I (m _ _ _ q)
theorem zkp{X:Cx}{e:Expr}{t t':TT}(h:PW X e t)(m:∀σ H Q,t' σ H Q->t σ H Q):PW X e t':=fun w pins s σ H Q I q=>h w pins s σ H Q I (m _ _ _ q)
theorem zky{X:Cx}{e:List Expr}{t t':TA}(h:PA X e t)(m:∀σ H Q,t' σ H Q->t σ H Q):PA X e t':=fun pos pins s σ H Q I q=>h pos pins s σ H Q I (m _ _ _ q)
theorem xi{X:Cx}{e:Stmt}{t t':TS}(h:PS X e t)(m:∀σ H Q,t' Q σ H->t Q σ H):PS X e t':=fun pins s σ H Q I q=>h pins s σ H Q I (m _ _ _ q)
theorem zh6{X:Cx}{e:List Stmt}{t t':TS}(h:PSs X e t)(m:∀σ H Q,t' Q σ H->t Q σ H):PSs X e t':=fun pins s σ H Q I q=>h pins s σ H Q I (m _ _ _ q)
end F
namespace F
open PySem L2
noncomputable def eV(i:Nat):E:=fun ev S=>match ev[i]? with
 |some (some d)=>some (d,S)
 |_=>none
noncomputable def eK(d:D):E:=fun _ S=>some (d,S)
def e1(op:D->Option D)(f:E):E:=fun ev S=>(f ev S).bind fun p=>(op p.1).map fun d=>(d,p.2)
def e2(op:D->D->Option D)(f g:E):E:=fun ev S=>(f ev S).bind fun p=>(g ev p.2).bind fun q=>(op p.1 q.1).map fun d=>(d,q.2)
def e2s(op:Sto->D->D->Option D)(f g:E):E:=fun ev S=>(f ev S).bind fun p=>(g ev p.2).bind fun q=>(op q.2 p.1 q.1).map fun d=>(d,q.2)
def aN:As:=fun _ S=>some ([],S)
def aC(f:E)(g:As):As:=fun ev S=>(f ev S).bind fun p=>(g ev p.2).bind fun q=>some (p.1::q.1,q.2)
def eA(op:Sto->List D->Option D)(g:As):E:=fun ev S=>(g ev S).bind fun q=>(op q.2 q.1).map fun d=>(d,q.2)
def zk(g:G)(a:As):E:=fun ev S=>(a ev S).bind fun q=>g q.1 q.2
def zct(c:Str)(S:Sto):D->Option (Nat×List (Str×D))
 | .obj i=>match S[i]? with
   |some (.ins c' fs)=>if c'=c then some (i,fs)else none
   |_=>none
 |_=>none
def x3(c m:Str)(g:G)(f:E)(a:As):E:=fun ev S=>(f ev S).bind fun p=>(zct c p.2 p.1).bind fun r=>if r.2.lookup m=none then (a ev p.2).bind fun q=>g (p.1::q.1) q.2 else none
def zel(c:Str)(g:G)(a:As):E:=fun ev S=>(a ev S).bind fun q=>(g (.obj q.2.length::q.1) (q.2++[.ins c []])).bind fun r=>match r.1 with
 | .non=>some (.obj q.2.length,r.2)
 |_=>none
def zs4(c n:Str)(f:E):E:=fun ev S=>(f ev S).bind fun p=>(zct c p.2 p.1).bind fun r=>(r.2.lookup n).map fun d=>(d,p.2)
def zfx(g:As):E:=fun ev S=>(g ev S).bind fun q=>if q.1.length<=sizeLine then some (.obj q.2.length,q.2++[.lst q.1])else none
def zap(g:As):E:=eA (fun _ ds=>if ds.length<=sizeLine then some (.tup ds)else none) g
def ya(g:As):E:=eA (fun _ ds=>if ds.length<=sizeLine then some (.lst ds)else none) g
def bE(f:E):B:=fun ev S=>(f ev S).bind fun p=>match p.1 with
 | .bl b=>some (b,p.2)
 |_=>none
def zcb(f:B):B:=fun ev S=>(f ev S).map fun p=>(!p.1,p.2)
def zho(f g:B):B:=fun ev S=>(f ev S).bind fun p=>if p.1=true then g ev p.2 else some (false,p.2)
def bOr(f g:B):B:=fun ev S=>(f ev S).bind fun p=>if p.1=true then some (true,p.2)else g ev p.2
def zv4(f:E):E:=e1 (fun d=>match d with | .bl b=>some (.bl !b) | _=>none) f
def zs5(f g:E):E:=fun ev S=>(f ev S).bind fun p=>match p.1 with
 | .bl true=>g ev p.2
 | .bl false=>some (.bl false,p.2)
 |_=>none
def je:C:=fun ev S=>some (.nx ev,S)
def zw(a b:C):C:=fun ev S=>(a ev S).bind fun p=>match p.1 with
 | .nx e=>b e p.2
 |o=>some (o,p.2)
def qk(f:E):C:=fun ev S=>(f ev S).map fun p=>(.rt p.1,p.2)
def zbi(f:E):C:=fun ev S=>(f ev S).map fun p=>(.nx ev,p.2)
def qv(i:Nat)(f:E):C:=fun ev S=>(f ev S).map fun p=>(.nx (ev.set i (some p.1)),p.2)
def z02(i j:Nat)(f:As):C:=fun ev S=>(f ev S).bind fun p=>match p.1 with
 | [a,b]=>some (.nx ((ev.set i (some a)).set j (some b)),p.2)
 |_=>none
def yd(ev:Ev):List Nat->List D->Option Ev
 | [],[]=>some ev
 |i::is,d::ds=>yd (ev.set i (some d)) is ds
 |_,_=>none
def sIf(c:B)(a b:C):C:=fun ev S=>(c ev S).bind fun p=>if p.1=true then a ev p.2 else b ev p.2
def zdl:C:=fun _ _=>none
def zo7(n:Str)(d:D):List (Str×D)->List (Str×D)
 | []=>[(n,d)]
 | (g,x)::r=>if g=n then (g,d)::r else (g,x)::zo7 n d r
def zi8(c n:Str)(o v:E):C:=fun ev S=>(v ev S).bind fun p=>(o ev p.2).bind fun q=>(zct c q.2 q.1).bind fun r=>if r.2.length<1000 then some (.nx ev,q.2.set r.1 (.ins c (zo7 n p.1 r.2)))else none
def z0k(o i v:E):C:=fun ev S=>(v ev S).bind fun p=>(o ev p.2).bind fun q=>(i ev q.2).bind fun r=>match q.1,r.1 with
 | .obj a,.int k=>(match r.2[a]? with
   |some (.lst ds)=>(ixN ds.length k).map fun j=>(.nx ev,r.2.set a (.lst (ds.set j p.1)))
   |_=>none)
 |_,_=>none
def jz(o v:E):C:=fun ev S=>(o ev S).bind fun q=>match q.1 with
 | .obj a=>(match q.2[a]? with
   | some (.lst _)=>(v ev q.2).bind fun p=>(match p.2[a]? with
     |some (.lst ds)=>if ds.length<sizeLine then some (.nx ev,p.2.set a (.lst (ds++[p.1])))else none
     |_=>none)
   |_=>none)
 |_=>none
def yc(i:Nat)(body:C):List D->Ev->Sto->Option (Out×Sto)
 | [],ev,S=>some (.nx ev,S)
 | d::ds,ev,S=>(body (ev.set i (some d)) S).bind fun p=>match p.1 with
   | .nx e=>yc i body ds e p.2
   | .ct e=>yc i body ds e p.2
   | .bk e=>some (.nx e,p.2)
   | .rt x=>some (.rt x,p.2)
def zfb(i:Nat)(f:E)(body:C):C:=fun ev S=>(f ev S).bind fun p=>match p.1 with
 | .lst ds=>yc i body ds ev p.2
 |_=>none
def qo(lo:Int)(n:Nat):List D:=(List.range n).map fun k:Nat=>D.int (lo+(k:Int))
def zgo(i:Nat)(f:E)(body:C):C:=fun ev S=>(f ev S).bind fun p=>match p.1 with
 | .int j=>if -(2^62)<=j/\j<2^62 then yc i body (qo 0 j.toNat) ev p.2 else none
 |_=>none
def zbw(c:B)(body:C):Nat->Ev->Sto->Option (Out×Sto)
 |0,_,_=>none
 | n+1,ev,S=>(c ev S).bind fun p=>if p.1=true then (body ev p.2).bind fun q=>(match q.1 with
   | .nx e=>zbw c body n e q.2
   | .ct e=>zbw c body n e q.2
   | .bk e=>some (.nx e,q.2)
   | .rt x=>some (.rt x,q.2))else some (.nx ev,p.2)
def zo1(n:Nat)(c:B)(body:C):C:=zbw c body n
def z5(N n:Nat)(c:C):G:=fun ds S=>if ds.length=n then (match c (ds.map some++List.replicate (N-ds.length) none) S with
 |some (.nx _,S1)=>some (.non,S1)
 |some (.rt d,S1)=>some (d,S1)
 |_=>none)else none
theorem z8{α β:Type}{o:Option α}{f:α->Option β}{b:β}(h:o.bind f=some b):∃a,o=some a/\f a=some b:=by
 cases o with
 |none=>cases h
 |some a=>exact⟨a,rfl,h⟩
theorem zbs{α β:Type}{o:Option α}{f:α->β}{b:β}(h:o.map f=some b):∃a,o=some a/\f a=b:=by
 cases o with
 |none=>cases h
 |some a=>exact⟨a,rfl,z1s h⟩
section
variable {X:Cx}
def ze5(K:zFr)(mg:zMg)(R:R2)(op:Sto->D->D->Option D):Prop :=
 ∀(ρ:List Addr) (H:Hp) (S:Sto) (x y:V) (dx dy d:D) (Q:VK),StOk K mg ρ H S->Rep K mg ρ H dx x->Rep K mg ρ H dy y->op S dx dy=some d ->
   (∀v H',Ext ρ H ρ H'->StOk K mg ρ H' S->Rep K mg ρ H' d v->Q v H')->R x y H Q
def zs6(K:zFr)(mg:zMg)(R:List V->Hp->VK->Prop)(op:Sto->List D->Option D):Prop :=
 ∀(ρ:List Addr) (H:Hp) (S:Sto) (xs:List V) (ds:List D) (d:D) (Q:VK),StOk K mg ρ H S->RepL K mg ρ H ds xs->op S ds=some d ->
   (∀v H',Ext ρ H ρ H'->StOk K mg ρ H' S->Rep K mg ρ H' d v->Q v H')->R xs H Q
section
variable {K:zFr}{mg:zMg}{R R':R2}{op op':Sto->D->D->Option D}
theorem t2(hs:ze5 K mg R op){f g:E}{σ:St}{H:Hp}{Q:VK}(h:tE K mg (e2s op f g) σ H Q):tOp R (tE K mg f) (tE K mg g) σ H Q:=by obtain⟨ρ,ev,S,d,S',hE,hS,hf,k⟩:=h;obtain⟨⟨x,S1⟩,q1,hf⟩:=z8 hf;obtain⟨⟨y,S2⟩,q2,hf⟩:=z8 hf;obtain⟨z,q3,hf⟩:=zbs hf;cases hf;refine⟨ρ,ev,S,x,S1,hE,hS,q1,fun v ρ1 H1 E1 hS1 r1=>⟨ρ1,ev,S1,y,S2,hE.mono E1,hS1,q2,fun u ρ2 H2 E2 hS2 r2=>?_⟩⟩;exact hs ρ2 H2 _ v u x y _ Q hS2 (r1.mono E2) r2 q3 fun w H' E3 hS3 r3=>k w ρ2 H' ((E1.trans E2).trans E3) hS3 r3
end
theorem zfv{o:Operator}{R:R2}{op:Sto->D->D->Option D}{a b:Expr}{f g:E}{pos:Pos}(ho:OpR X (binaryOp o) R)(hs:ze5 X.K X.mg R op)(ha:FE X a f)(hb:FE X b g):FE X (.BinOp a o b pos) (e2s op f g) :=
 jc (zuf ho ha hb) fun _ _ _ h=>t2 hs h
theorem zpq{o:CmpOp}{R:R2}{op:Sto->D->D->Option D}{a b:Expr}{f g:E}{pos:Pos}(ho:OpR X (compareOp o) R)(hs:ze5 X.K X.mg R op)(ha:FE X a f)(hb:FE X b g)(hm:behindInMarks o b=false):FE X (.Compare a [o] [b] pos) (e2s op f g) :=
 jc (zq9 ho ha hb hm) fun _ _ _ h=>t2 hs h
theorem zqe{K mg}{f:E}{t:TE}{σ:St}{H:Hp}{Q:Bool->Hp->Prop}(m:∀Q,tE K mg f σ H Q->t σ H Q)(h:tB K mg (bE f) σ H Q):zm3 t σ H Q:=by
 obtain⟨ρ,ev,S,b,S',hE,hS,hf,k⟩:=h;obtain⟨⟨x,S1⟩,q1,hf⟩:=z8 hf;cases x with
 | bl c=>
   cases hf;refine m _ ⟨ρ,ev,S,_,_,hE,hS,q1,fun v ρ1 H1 E1 hS1 r1=>?_⟩;exact⟨b,r1,k ρ1 H1 E1 hS1⟩
 |_=>cases hf
theorem za6{o:CmpOp}{R:R2}{op:Sto->D->D->Option D}{a b:Expr}{f g:E}{pos:Pos}(ho:OpR X (compareOp o) R)(hs:ze5 X.K X.mg R op)(ha:FE X a f)(hb:FE X b g)(hm:behindInMarks o b=false):FB X (.Compare a [o] [b] pos) (bE (e2s op f g)) :=
 zch (zqz ho ha hb hm) fun _ _ _ h=>zqe (fun _ h=>t2 hs h) h
theorem zf(i:Nat){x:Str}{pos:Pos}(hN:X.N[i]? = some x:=by rfl)(hv:Vis X.env.scope x:=by first | exact Or.inl rfl | exact Or.inr (Or.inl rfl) | exact Or.inr (Or.inr rfl))(hd:(x==("__debug__":Str))=false:=by decide)
   (hcd:(x==("__classdict__":Str))=false:=by decide):FE X (.Name x pos) (eV i) :=
 jc (zud hN hv hd hcd) fun σ H Q h=>by
   obtain⟨ρ,ev,S,d,S',hE,hS,hf,k⟩:=h;unfold eV at hf;split at hf
   · rename_i x e;cases hf;obtain⟨v,e1,r⟩:=hE.at_ i _ e;exact⟨v,e1,k v ρ H (Ext.refl _ _) hS r⟩
   · cases hf
theorem za0{e:Expr}{v:V}{d:D}(h:PE X e (L2.tC v))(r:∀ρ H,Rep X.K X.mg ρ H d v):FE X e (eK d) :=
 jc h fun σ H Q h=>by obtain⟨ρ,ev,S,d,S',hE,hS,hf,k⟩:=h;cases hf;exact k v ρ H (Ext.refl _ _) hS (r _ _)
theorem zm{i:Int}{j pos}:FE X (.Constant (.int i) j pos) (eK (.int i)):=za0 zuj fun _ _=>rfl
theorem zan{b:Bool}{j pos}:FE X (.Constant (.bool b) j pos) (eK (.bl b)):=za0 zx3 fun _ _=>rfl
theorem ja{j pos}:FE X (.Constant .none j pos) (eK .non):=za0 zui fun _ _=>rfl
theorem zvn{x:Str}{j pos}:FE X (.Constant (.str x) j pos) (eK (.str x)):=za0 zo9 fun _ _=>rfl
theorem zx{x:Str}{n:Int}{pos:Pos}(hm:∃t,X.mg x=some (.int n t))(hg:Gl X x:=by rfl)(hd:(x==("__debug__":Str))=false:=by decide):FE X (.Name x pos) (eK (.int n)):=by obtain⟨t,hm⟩:=hm;exact za0 (zkw hg hm (v:=.int n) ⟨t,rfl⟩ hd) fun _ _=>rfl
theorem zjh{x:Str}{pos:Pos}(hm:∃f,X.mg x=some (.ref f))(hg:Gl X x:=by rfl)(hd:(x==("__debug__":Str))=false:=by decide):FE X (.Name x pos) (eK (.fn x)):=by obtain⟨f,hm⟩:=hm;exact za0 (zkw hg hm (v:=.ref f) rfl hd) fun ρ H=>by unfold Rep;exact⟨f,rfl,hm⟩
theorem zb:FA X [] aN:=zky zup fun σ H Q h=>by obtain⟨ρ,ev,S,d,S',hE,hS,hf,k⟩:=h;cases hf;exact k [] ρ H (Ext.refl _ _) hS RepL.nil
theorem za{e:Expr}{es:List Expr}{f:E}{g:As}(ha:FE X e f)(hr:FA X es g)(hs:starEach (e::es) X.env=(false,eval e X.env)::starEach es X.env:=by exact q0 rfl):FA X (e::es) (aC f g) :=
 zky (zrc ha hr hs) fun σ H Q h=>by obtain⟨ρ,ev,S,d,S',hE,hS,hf,k⟩:=h;obtain⟨⟨x,S1⟩,q1,hf⟩:=z8 hf;obtain⟨⟨y,S2⟩,q2,hf⟩:=z8 hf;cases hf;refine⟨ρ,ev,S,x,S1,hE,hS,q1,fun v ρ1 H1 E1 hS1 r1=>⟨ρ1,ev,S1,y,_,hE.mono E1,hS1,q2,fun vs ρ2 H2 E2 hS2 r2=>?_⟩⟩;exact k (v::vs) ρ2 H2 (E1.trans E2) hS2 (RepL.cons (r1.mono E2) r2)
theorem tA{K mg}{R:List V->Hp->VK->Prop}{op:Sto->List D->Option D}(hs:zs6 K mg R op){g:As}{σ:St}{H:Hp}{Q:VK}(h:tE K mg (eA op g) σ H Q):tAs K mg g σ H fun vs H1=>R vs H1 Q:=by obtain⟨ρ,ev,S,d,S',hE,hS,hf,k⟩:=h;obtain⟨⟨x,S1⟩,q1,hf⟩:=z8 hf;obtain⟨z,q3,hf⟩:=zbs hf;cases hf;exact⟨ρ,ev,S,x,_,hE,hS,q1,fun vs ρ1 H1 E1 hS1 r1=>hs ρ1 H1 _ vs x _ Q hS1 r1 q3 fun w H' E3 hS3 r3=>k w ρ1 H' (E1.trans E3) hS3 r3⟩
theorem jm{es:List Expr}{g:As}{x1 pos}(h:FA X es g):FE X (.Tuple es x1 pos) (zap g) :=
 jc (zue h) fun σ H Q h=>tA (K:=X.K) (mg:=X.mg) (R:=fun xs H1 Q=>xs.length<=sizeLine/\∀p,H1 p=none->Q (.ref p) (upd H1 p (.tup xs))) (fun ρ H S xs ds d Q hS r e k=>by
   split at e
   · rename_i hl;cases e;exact⟨by rw[<-r.length];exact hl,fun p hp=>k _ _ (kf hS _ hp) (hS.new _ hp) (Rep.tup (s:=hS) hp r)⟩
   · cases e) h
theorem jn{es:List Expr}{g:As}{pos}(h:FA X es g):FE X (.List es pos) (ya g) :=
 jc (zpa h) fun σ H Q h=>tA (K:=X.K) (mg:=X.mg) (R:=fun xs H1 Q=>xs.length<=sizeLine/\∀p,H1 p=none->Q (.ref p) (upd H1 p (.lst xs))) (fun ρ H S xs ds d Q hS r e k=>by
   split at e
   · rename_i hl;cases e;exact⟨by rw[<-r.length];exact hl,fun p hp=>k _ _ (kf hS _ hp) (hS.new _ hp) (Rep.lst (s:=hS) hp r)⟩
   · cases e) h
theorem zg6{es:List Expr}{g:As}{pos}(h:FA X es g):FE X (.List es pos) (zfx g) :=
 jc (zpa h) fun σ H Q h=>by
   obtain⟨ρ,ev,S,d,S',hE,hS,hf,k⟩:=h;obtain⟨⟨x,S1⟩,q1,hf⟩:=z8 hf;dsimp only at hf;split at hf
   · rename_i hl;cases hf;refine⟨ρ,ev,S,x,S1,hE,hS,q1,fun vs ρ1 H1 E1 hS1 r1=>⟨by rw[<-r1.length];exact hl,fun p hp=>?_⟩⟩;refine k _ _ _ (E1.trans (zao hS1 _ hp)) (hS1.add hp ⟨vs,ql,r1.mono (zao hS1 _ hp)⟩) ?_;unfold Rep;refine⟨p,rfl,?_⟩;rw[z1a (by rw[hS1.len]<;>exact z07 _),hS1.len];simp
   · cases hf
theorem ziq{id:String}{R:List V->Hp->VK->Prop}{op:Sto->List D->Option D}{x:Str}{p pos:Pos}{e:Expr}{es:List Expr}{g:As}(hc:CallR X (.builtin id) R)(hs:zs6 X.K X.mg R op)(hm:X.mg x=none)(hv:bootBuiltins x=some (.builtin id))(ha:FA X (e::es) g)
   (hg:Gl X x:=by rfl) (hn:x≠"__name__":=by decide) (hdb:(x==("__debug__":Str))=false:=by decide)
   (he:starEach (e::es) X.env=(false,eval e X.env)::starEach es X.env:=by exact q0 rfl) (hpl:(backTo pos (starEach es X.env)).any (·.1)=false:=by exact ju rfl):FE X (.Call (.Name x p) (e::es) [] pos) (eA op g) :=
 jc (znl hc hg hm hv ha hn hdb he hpl) fun σ H Q h=>tA hs h
end
structure Cal (P:Program) (w:World) (K:zFr) (mg:zMg) (base:Heap) (k:Nat) (x:Str) (g:G):Prop where
 ex:∃(f:Addr) (fd:FuncData) (ps:List Str) (ds:List Value) (dvs:List V) (dds:List D) (gg:G),FnOk P w K mg base CX0 k f fd ps (spG K mg gg)/\mg x=some (.ref f)/\PySem.W.keepIn K (.ref f)=true /\
   Binds K fd ps ds/\Vals dvs ds/\(∀ρ H,RepL K mg ρ H dds dvs)/\∀args S r,g args S=some r->gg (args++dds) S=some r
theorem Cal.mono{P w K mg base j k x g}(c:Cal P w K mg base j x g)(h:j<=k):Cal P w K mg base k x g:=by obtain⟨f,fd,ps,ds,dvs,dds,gg,F,r⟩:=c.ex;exact⟨f,fd,ps,ds,dvs,dds,gg,F.mono h,r⟩
structure Mth (P:Program) (w:World) (K:zFr) (mg:zMg) (base:Heap) (k:Nat) (c m:Str) (g:G):Prop where
 ex:∃(C f:Addr) (fd:FuncData) (ps:List Str) (ds:List Value) (dvs:List V) (dds:List D) (gg:G),FnOk P w K mg base CX0 k f fd ps (spG K mg gg)/\mg c=some (.ref C)/\Cls K C/\Meth K C m f /\
   Binds K fd ps ds/\Vals dvs ds/\(∀ρ H,RepL K mg ρ H dds dvs)/\∀args S r,g args S=some r->gg (args++dds) S=some r
structure Mak (P:Program) (w:World) (K:zFr) (mg:zMg) (base:Heap) (k:Nat) (c:Str) (g:G):Prop where
 ex:∃(C f:Addr) (fd:FuncData) (ps:List Str) (ds:List Value) (dvs:List V) (dds:List D) (gg:G),FnOk P w K mg base CX0 k f fd ps (spG K mg gg)/\mg c=some (.ref C)/\Mk K C f /\
   Binds K fd ps ds/\Vals dvs ds/\(∀ρ H,RepL K mg ρ H dds dvs)/\∀args S r,g args S=some r->gg (args++dds) S=some r
def Fld(K:zFr)(mg:zMg)(c n:Str):Prop:=∀C,mg c=some (.ref C)->Cls K C/\NoAttr K C n
section
variable {X:Cx}{k:Nat}{x c m n:Str}{g:G}{e o:Expr}{es:List Expr}{a:As}{f:E}{p pos apos:Pos}
theorem zhw{K mg}{gg:G}{dds:List D}{dvs:List V}(hdd:∀ρ H,RepL K mg ρ H dds dvs)(hg:∀args S r,g args S=some r->gg (args++dds) S=some r){σ:St}{H:Hp}{Q:VK}(h:tE K mg (zk g a) σ H Q) :
   zqi (spG K mg gg) dvs E0 (tAs K mg a) σ H Q:=by
 obtain⟨ρ,ev,S,d,S',hE,hS,hf,k⟩:=h;obtain⟨⟨ds,S1⟩,q1,hf⟩:=z8 hf;exact⟨ρ,ev,S,ds,S1,hE,hS,q1,fun vs ρ1 H1 E1 hS1 r1=>⟨ρ1,ds++dds,S1,d,S',r1.append (hdd ρ1 H1),hS1,hg _ _ _ hf,fun v ρ' H' E' hS' r'=>k v ρ' H' (E1.trans E') hS' r'⟩⟩
theorem ze(cal:Cal X.prog X.w X.K X.mg X.base k x g)(hr:Room k X.A)(ha:FA X (e::es) a)(hg:Gl X x:=by rfl)(hdb:(x==("__debug__":Str))=false:=by decide)
   (he:starEach (e::es) X.env=(false,eval e X.env)::starEach es X.env:=by exact q0 rfl) (hpl:(backTo pos (starEach es X.env)).any (·.1)=false:=by exact ju rfl) :
   FE X (.Call (.Name x p) (e::es) [] pos) (zk g a):=by
 obtain⟨f,fd,ps,ds,dvs,dds,gg,F,hm,hk,hb,hd,hdd,hgg⟩:=cal.ex;exact jc (zra F hr hg hm hk hb hd zgs ha hdb he hpl) fun σ H Q h=>zhw hdd hgg h
theorem zd7{c:Str}{S:Sto}{d:D}{r:Nat×List (Str×D)}(h:zct c S d=some r):d=.obj r.1/\S[r.1]? = some (.ins c r.2):=by
 unfold zct at h;split at h
 · split at h
   · rename_i i _ c' fs e;split at h
     · rename_i hc;cases h;subst hc;exact⟨rfl,e⟩
     · cases h
   · cases h
 · cases h
theorem zgq{K mg ρ H S}(hS:StOk K mg ρ H S){c:Str}{i:Nat}{fs:List (Str×D)}{v:V}(h:S[i]? = some (.ins c fs))(r:Rep K mg ρ H (.obj i) v) :
   ∃b C dx vs,v=.ref b/\ρ[i]? = some b/\mg c=some (.ref C)/\H b=some (.ins C dx vs)/\zs7 K mg ρ H fs vs:=by
 unfold Rep at r;obtain⟨b,rfl,e⟩:=r;obtain⟨C,dx,vs,h1,h2,h3⟩:=hS.ob i _ b h e;exact⟨b,C,dx,vs,rfl,e,h1,h2,h3⟩
theorem zgy{fs:List (Str×D)}{vs:List (Str×V)}{m:Str}(h:vs.map (·.1)=fs.map (·.1))(e:fs.lookup m=none):vs.lookup m=none:=by
 induction fs generalizing vs with
 | nil=>
   cases vs with
   |nil=>rfl
   |cons _ _=>cases h
 | cons q fs ih=>
   cases vs with
   |nil=>cases h
   | cons q' vs=>
     obtain⟨a,b⟩:=q;obtain⟨a',b'⟩:=q';simp only[z1g,z2l]at h;obtain⟨h1,h2⟩:=h;subst h1;simp only[List.lookup]at e ⊢;split at e
     · cases e
     · exact ih h2 e
theorem zgx{K mg ρ H}{fs:List (Str×D)}{vs:List (Str×V)}{m:Str}{d:D}(h:zs7 K mg ρ H fs vs)(e:fs.lookup m=some d):∃v,vs.lookup m=some v/\Rep K mg ρ H d v:=by
 obtain⟨h,r⟩:=h
 induction fs generalizing vs with
 |nil=>cases e
 | cons q fs ih=>
   cases vs with
   |nil=>cases h
   | cons q' vs=>
     obtain⟨a,b⟩:=q;obtain⟨a',b'⟩:=q';simp only[z1g,z2l]at h;obtain⟨h1,h2⟩:=h;subst h1;rw[z1g,z1g]at r;unfold RepL at r;obtain⟨u,t,e1,r1,r2⟩:=r;cases e1;simp only[List.lookup]at e ⊢;split at e
     · cases e;exact⟨_,rfl,r1⟩
     · exact ih e h2 r2
theorem jd(mt:Mth X.prog X.w X.K X.mg X.base k c m g)(hr:Room k X.A)(ho:FE X o f)(ha:FA X (e::es) a){pl:Sem Bool}
   (hst:starEach (e::es) X.env=(false,eval e X.env)::starEach es X.env:=by exact q0 rfl) (hpl:(backTo pos (starEach es X.env)).any (·.1)=false:=by exact ju rfl)
   (ht:eval (.Call (.Attribute o m apos) (e::es) [] pos) X.env=(do
     let ov <-eval o X.env
     standAt apos.atName
     let(f,first) <-holding [ov] (getMethod ov m pl)
     callWith pos f first (backTo pos (starEach (e::es) X.env)) (backToKw pos (keywordEach [] X.env))):=by rfl) :
   FE X (.Call (.Attribute o m apos) (e::es) [] pos) (x3 c m g f a):=by
 obtain⟨C,fa,fd,ps,ds,dvs,dds,gg,F,hm,hc,hme,hb,hd,hdd,hgg⟩:=mt.ex;refine jc (zq6 ho hc hme F hr hb hd zgs ha hst hpl ht) fun σ H Q h=>?_;obtain⟨ρ,ev,S,d,S',hE,hS,hf,k⟩:=h;obtain⟨⟨y,S1⟩,q1,hf⟩:=z8 hf;obtain⟨⟨i,fs⟩,q2,hf⟩:=z8 hf;dsimp only at hf q2;split at hf
 · rename_i hl;obtain⟨⟨ys,S2⟩,q3,hf⟩:=z8 hf;obtain⟨rfl,hi⟩:=zd7 q2;refine⟨ρ,ev,S,_,S1,hE,hS,q1,fun v ρ1 H1 E1 hS1 r1=>?_⟩;obtain⟨b,C',dx,vs,rfl,hb1,hm',hb2,hb3⟩:=zgq hS1 hi r1;have ec:C'=C:=by rw[hm]at hm';cases hm';rfl
   subst ec;refine⟨b,dx,vs,rfl,hb2,zgy hb3.1 hl,ρ1,ev,S1,ys,S2,hE.mono E1,hS1,q3,fun us ρ2 H2 E2 hS2 r2=>?_⟩;exact⟨ρ2,_,S2,d,S',(RepL.cons (r1.mono E2) r2).append (hdd ρ2 H2),hS2,hgg _ _ _ hf,fun v ρ' H' E' hS' r'=>k v ρ' H' ((E1.trans E2).trans E') hS' r'⟩
 · cases hf
theorem zhu{K mg}{gg:G}{C:Addr}{dds:List D}{dvs:List V}(hm:mg c=some (.ref C))(hdd:∀ρ H,RepL K mg ρ H dds dvs)(hg:∀args S r,g args S=some r->gg (args++dds) S=some r){σ:St}{H:Hp}{Q:VK}(h:tE K mg (zel c g a) σ H Q) :
   zqg C (spG K mg gg) dvs E0 (tAs K mg a) σ H Q:=by
 obtain⟨ρ,ev,S,d,S',hE,hS,hf,k⟩:=h;obtain⟨⟨ds,S1⟩,q1,hf⟩:=z8 hf;obtain⟨⟨y,S2⟩,q2,hf⟩:=z8 hf;dsimp only at hf;cases y with
 | non=>
   cases hf;refine⟨ρ,ev,S,ds,S1,hE,hS,q1,fun vs ρ1 H1 E1 hS1 r1=>fun x dx nx ndx ne=>?_⟩;have s0:=hS1.new (.own x) ndx;have nx':upd H1 dx (.own x) x=none:=by rw[qg (z3v ne)];exact nx
   have e0:=kf hS1 (.own x) ndx;have e1:=zao s0 (p:=x) (.ins C dx []) nx';have s1:StOk K mg (ρ1++[x]) (upd (upd H1 dx (.own x)) x (.ins C dx [])) (S1++[.ins c []]):=s0.add nx' ⟨C,dx,[],hm,ql,rfl,RepL.nil⟩;have ro:Rep K mg (ρ1++[x]) (upd (upd H1 dx (.own x)) x (.ins C dx [])) (.obj S1.length) (.ref x):=by unfold Rep;refine⟨x,rfl,?_⟩;rw[z1a (by rw[hS1.len]<;>exact z07 _),hS1.len];simp
   refine⟨ρ1++[x],_,_,.non,_,RepL.cons ro ((r1.mono (e0.trans e1)).append (hdd _ _)),s1,hg _ _ _ q2,fun v ρ' H' E' hS' r'=>⟨r',?_⟩⟩;exact k _ ρ' H' (E1.trans ((e0.trans e1).trans E')) hS' (ro.mono E')
 |_=>cases hf
theorem zr7(mk:Mak X.prog X.w X.K X.mg X.base k c g)(hr:Room (k+1) X.A)(ha:FA X (e::es) a)(hg:Gl X c:=by rfl)(hdb:(c==("__debug__":Str))=false:=by decide)
   (he:starEach (e::es) X.env=(false,eval e X.env)::starEach es X.env:=by exact q0 rfl) (hpl:(backTo pos (starEach es X.env)).any (·.1)=false:=by exact ju rfl) :
   FE X (.Call (.Name c p) (e::es) [] pos) (zel c g a):=by
 obtain⟨C,f,fd,ps,ds,dvs,dds,gg,F,hm,M,hb,hd,hdd,hgg⟩:=mk.ex;exact jc (zq7 M F hr hg hm hb hd zgs ha hdb he hpl) fun σ H Q h=>zhu hm hdd hgg h
theorem zn5(mk:Mak X.prog X.w X.K X.mg X.base k c g)(hr:Room (k+1) X.A)(hg:Gl X c:=by rfl)(hdb:(c==("__debug__":Str))=false:=by decide) :
   FE X (.Call (.Name c p) [] [] pos) (zel c g aN):=by
 obtain⟨C,f,fd,ps,ds,dvs,dds,gg,F,hm,M,hb,hd,hdd,hgg⟩:=mk.ex;refine jc (zni M F hr hg hm hb hd zgs hdb) fun σ H Q h=>?_;have h':=zhu (C:=C) (gg:=gg) hm hdd hgg h;obtain⟨ρ,ev,S,d,S',hE,hS,hf,k⟩:=h';cases hf;exact k [] ρ H (Ext.refl _ _) hS RepL.nil
theorem zpp(hc:Fld X.K X.mg c n)(ho:FE X o f)(hb:attributeBase o n X.env (eval o X.env)=eval o X.env:=by rfl):FE X (.Attribute o n pos) (zs4 c n f) :=
 jc (zuk ho hb) fun σ H Q h=>by obtain⟨ρ,ev,S,d,S',hE,hS,hf,k⟩:=h;obtain⟨⟨y,S1⟩,q1,hf⟩:=z8 hf;obtain⟨⟨i,fs⟩,q2,hf⟩:=z8 hf;obtain⟨d',q3,hf⟩:=zbs hf;cases hf;obtain⟨rfl,hi⟩:=zd7 q2;refine⟨ρ,ev,S,_,_,hE,hS,q1,fun v ρ1 H1 E1 hS1 r1=>?_⟩;obtain⟨b,C,dx,vs,rfl,hb1,hm',hb2,hb3⟩:=zgq hS1 hi r1;obtain⟨v,e1,r2⟩:=zgx hb3 q3;exact⟨b,C,dx,vs,v,rfl,hb2,(hc C hm').1,(hc C hm').2,e1,k v ρ1 H1 E1 hS1 r2⟩
def zpw(ft:Str->Option G)(f:E)(a:As):E:=fun ev S=>(f ev S).bind fun p=>match p.1 with
 | .fn x=>(ft x).bind fun g=>(a ev p.2).bind fun q=>g q.1 q.2
 |_=>none
theorem zn8{fe:Expr}{ft:Str->Option G}(hT:∀x g,ft x=some g->Cal X.prog X.w X.K X.mg X.base k x g)(hr:Room k X.A)(hf:FE X fe f)(ha:FA X (e::es) a)
   (ht:eval (.Call fe (e::es) [] pos) X.env=(eval fe X.env >>= fun v=>callWith pos v [] (backTo pos (starEach (e::es) X.env)) (backToKw pos (keywordEach [] X.env))):=by rfl)
   (he:starEach (e::es) X.env=(false,eval e X.env)::starEach es X.env:=by exact q0 rfl) (hpl:(backTo pos (starEach es X.env)).any (·.1)=false:=by exact ju rfl) :
   FE X (.Call fe (e::es) [] pos) (zpw ft f a):=by
 intro pins s σ H Q I h;rw[ht];obtain⟨ρ,ev,S,d,S',hE,hS,hf',kk⟩:=h;obtain⟨⟨y,S1⟩,q1,hf'⟩:=z8 hf';cases y with
 | fn x=>
   dsimp only at hf';obtain⟨g,hx,hf'⟩:=z8 hf';obtain⟨f0,fd,ps,ds,dvs,dds,gg,F,hm,hk,hb,hd,hdd,hgg⟩:=(hT x g hx).ex;refine z1v (thn (hf pins s σ H (fun v H1=>v=.ref f0/\zqi (spG X.K X.mg gg) dvs E0 (tAs X.K X.mg a) σ H1 Q) I ⟨ρ,ev,S,_,S1,hE,hS,q1,fun v ρ1 H1 E1 hS1 r1=>⟨?_,?_⟩⟩) fun u s1 ⟨v,H1,I1,rv,ev1,q⟩=>?_)
   · unfold Rep at r1;obtain⟨b,rfl,e1⟩:=r1;rw[hm]at e1;cases e1;rfl
   · exact zhw (g:=g) hdd hgg ⟨ρ1,ev,S1,d,S',hE.mono E1,hS1,hf',fun v ρ' H' E' hS' r'=>kk v ρ' H' (E1.trans E') hS' r'⟩
   · subst ev1;obtain rfl:u=Value.ref f0:=rv;refine z3i (h₀:=X.base) I.ok.mod.kin hk (thn (ha pos pins s1 σ H1 _ I1 q) fun us s2 ⟨vs,H2,I2,r,q2⟩=>⟨I2.kIn,?_⟩) he hpl;exact zfc F hr hb hd zgs I2 r q2
 |_=>cases hf'
theorem yr(h:FE X e f)(he:∀whole,isTrue e X.env whole=(do let v <-whole;standAt e.pos;holding [v] (truthy v)):=by intro _;rfl):FB X e (bE f) :=
 zch (zt4 h he) fun σ H Q h=>by
   obtain⟨ρ,ev,S,b,S',hE,hS,hf,k⟩:=h;obtain⟨⟨x,S1⟩,q1,hf⟩:=z8 hf;cases x with
   | bl c=>
     cases hf;exact⟨ρ,ev,S,_,_,hE,hS,q1,fun v ρ1 H1 E1 hS1 r1=>⟨b,r1,k ρ1 H1 E1 hS1⟩⟩
   |_=>cases hf
variable {b:Expr}{rest:List Expr}{u v:B}
theorem za5(h:FB X e u):FB X (.UnaryOp .Not e pos) (zcb u):=zch (zt5 h) fun σ H Q h=>by obtain⟨ρ,ev,S,b,S',hE,hS,hf,k⟩:=h;obtain⟨⟨x,S1⟩,q1,hf⟩:=zbs hf;cases hf;exact⟨ρ,ev,S,_,_,hE,hS,q1,fun ρ1 H1 E1 hS1=>k ρ1 H1 E1 hS1⟩
theorem zcy(h:FB X e u):FW X (.BoolOp .And [e] pos) u:=zqy h
theorem zvh(h:FB X e u):FW X (.BoolOp .Or [e] pos) u:=zt0 h
theorem zfu(h:FB X e u)(hb:FW X (.BoolOp .And (b::rest) pos) v):FW X (.BoolOp .And (e::b::rest) pos) (zho u v):=zkp (zt1 h hb) fun σ H Q h=>by
 obtain⟨ρ,ev,S,b,S',hE,hS,hf,k⟩:=h;obtain⟨⟨x,S1⟩,q1,hf⟩:=z8 hf;refine⟨ρ,ev,S,x,S1,hE,hS,q1,fun ρ1 H1 E1 hS1=>?_⟩;cases x with
 |true=>exact zw2 ⟨ρ1,ev,S1,b,S',hE.mono E1,hS1,hf,fun ρ2 H2 E2 hS2=>k ρ2 H2 (E1.trans E2) hS2⟩
 |false=>cases hf;exact zw3 (k ρ1 H1 E1 hS1)
theorem zys(h:FB X e u)(hb:FW X (.BoolOp .Or (b::rest) pos) v):FW X (.BoolOp .Or (e::b::rest) pos) (bOr u v):=zkp (zxw h hb) fun σ H Q h=>by
 obtain⟨ρ,ev,S,b,S',hE,hS,hf,k⟩:=h;obtain⟨⟨x,S1⟩,q1,hf⟩:=z8 hf;refine⟨ρ,ev,S,x,S1,hE,hS,q1,fun ρ1 H1 E1 hS1=>?_⟩;cases x with
 |true=>cases hf;exact zw2 (k ρ1 H1 E1 hS1)
 |false=>exact zw3 ⟨ρ1,ev,S1,b,S',hE.mono E1,hS1,hf,fun ρ2 H2 E2 hS2=>k ρ2 H2 (E1.trans E2) hS2⟩
theorem zs2(h:FW X e u):FB X e u:=h.pt
variable {g1 g2:E}
theorem zvp{op}(h:FE X e g1):FE X (.BoolOp op [e] pos) g1:=zug h
theorem zvt(h:FE X e g1)(hb:FE X (.BoolOp .And (b::rest) pos) g2):FE X (.BoolOp .And (e::b::rest) pos) (zs5 g1 g2):=jc (zuo h hb) fun σ H Q h=>by
 obtain⟨ρ,ev,S,d,S',hE,hS,hf,k⟩:=h;obtain⟨⟨x,S1⟩,q1,hf⟩:=z8 hf;refine⟨ρ,ev,S,x,S1,hE,hS,q1,fun w ρ1 H1 E1 hS1 r1=>?_⟩;cases x with
 | bl c=>
   refine⟨c,r1,?_⟩;cases c with
   |true=>exact zw2 ⟨ρ1,ev,S1,d,S',hE.mono E1,hS1,hf,fun v ρ2 H2 E2 hS2 r2=>k v ρ2 H2 (E1.trans E2) hS2 r2⟩
   |false=>cases hf;exact zw3 (k _ ρ1 H1 E1 hS1 rfl)
 |_=>cases hf
theorem zpn(h:FE X e g1):FE X (.UnaryOp .Not e pos) (zv4 g1):=jc (zuh h) fun σ H Q h=>by
 obtain⟨ρ,ev,S,d,S',hE,hS,hf,k⟩:=h;obtain⟨⟨x,S1⟩,q1,hf⟩:=z8 hf;obtain⟨z,q2,hf⟩:=zbs hf;cases hf;refine⟨ρ,ev,S,x,_,hE,hS,q1,fun w ρ1 H1 E1 hS1 r1=>?_⟩;cases x with
 |bl c=>cases q2;exact⟨c,r1,k _ ρ1 H1 E1 hS1 rfl⟩
 |_=>cases q2
end
section
variable {X:Cx}{st:Stmt}{rest:List Stmt}{a b body:C}{e o:Expr}{f g h':E}{u:B}{pos pos':Pos}{x c n:Str}
theorem zq:FSs X [] je:=zh6 zq1 fun σ H D h=>by obtain⟨ρ,ev,S,o,S',hE,hS,hf,k⟩:=h;cases hf;exact k σ ρ H (Ext.refl _ _) hS hE
theorem zd(h1:FS X st a)(h2:FSs X rest b):FSs X (st::rest) (zw a b):=zh6 (znd h1 h2) fun σ H D h=>by
 obtain⟨ρ,ev,S,o,S',hE,hS,hf,k⟩:=h;obtain⟨⟨o1,S1⟩,q1,hf⟩:=z8 hf;refine⟨ρ,ev,S,o1,S1,hE,hS,q1,?_⟩;cases o1 with
 |nx e=>exact fun σ' ρ' H' E' hS' hE'=>⟨ρ',e,S1,o,S',hE',hS',hf,k.ext E'⟩
 |rt d=>cases hf;exact k
 |bk e=>cases hf;exact k
 |ct e=>cases hf;exact k
theorem zi(h1:FS X st a):FSs X [st] a:=zq0 h1
theorem zn(h:FE X e f):FS X (.Return (some e) pos) (qk f):=xi (zt7 h) fun σ H D h=>by obtain⟨ρ,ev,S,o,S',hE,hS,hf,k⟩:=h;obtain⟨⟨d,S1⟩,q1,hf⟩:=zbs hf;cases hf;exact⟨ρ,ev,S,d,_,hE,hS,q1,k⟩
theorem zbl:FS X st zdl:=xi znf fun σ H D h=>by obtain⟨ρ,ev,S,o,S',hE,hS,hf,k⟩:=h;cases hf
theorem ky(h:FE X e f)(hs:swapsWith e none pos.line X.env=pure false:=by rfl):FS X (.Expr e pos) (zbi f):=xi (zks h hs) fun σ H D h=>by obtain⟨ρ,ev,S,o,S',hE,hS,hf,k⟩:=h;obtain⟨⟨d,S1⟩,q1,hf⟩:=zbs hf;cases hf;exact⟨ρ,ev,S,d,_,hE,hS,q1,fun v ρ1 H1 E1 hS1 r1=>k σ ρ1 H1 E1 hS1 (hE.mono E1)⟩
theorem zu(i:Nat)(h:FE X e f)(hN:X.N.Nodup)(hi:X.N[i]? = some x:=by rfl)(hx:Loc X.env.scope x:=by first | exact Or.inl rfl | exact Or.inr rfl)(hs:swapsWith e (some (.Name x pos')) pos.line X.env=pure false:=by rfl)
   (hf:X.fn x=true\/X.env.scope.names.lookup x=some .local:=by first | exact .inl rfl | exact .inr rfl | assumption):FS X (.Assign [.Name x pos'] e pos) (qv i f) :=
 xi (zt6 hN hi hx h hs hf) fun σ H D h=>by obtain⟨ρ,ev,S,o,S',hE,hS,hf,k⟩:=h;obtain⟨⟨d,S1⟩,q1,hf⟩:=zbs hf;cases hf;exact⟨ρ,ev,S,d,_,hE,hS,q1,fun v ρ1 H1 E1 hS1 r1=>k _ ρ1 H1 E1 hS1 ((hE.mono E1).set r1 i)⟩
inductive Names (X:Cx):List Expr->List Nat->TGs->Prop where
 |nil:Names X [] [] zz0
 |cons {i:Nat}{x:Str}{px:Pos}{es:List Expr}{is:List Nat}{t:TGs} (hN:X.N.Nodup) (hi:X.N[i]? = some x) (hx:Loc X.env.scope x) (hf:X.fn x=true\/X.env.scope.names.lookup x=some .local) (h:Names X es is t) (p:PGs X (.Name x px::es) (znz (zft i) t)):Names X (.Name x px::es) (i::is) (znz (zft i) t)
theorem Names.pgs{es is t}(h:Names X es is t):PGs X es t:=by
 cases h with
 |nil=>exact zq5
 |cons _ _ _ _ _ p=>exact p
theorem zif{K mg ρ H}{es is t}(h:Names X es is t):∀{ds:List D}{vs:List V}{ev ev':Ev}{σ:St}{Q:St->Hp->Prop},RepL K mg ρ H ds vs->EnvR K mg ρ H ev σ->yd ev is ds=some ev'->(∀σ',EnvR K mg ρ H ev' σ'->Q σ' H)->t vs σ H Q:=by
 induction h with
 | nil=>
   intro ds vs ev ev' σ Q r hE e k;cases ds with
   | nil=>
     unfold RepL at r;unfold yd at e;cases e;exact⟨r,k σ hE⟩
   |cons _ _=>unfold yd at e;cases e
 | cons hN hi hx hf _ _ ih=>
   intro ds vs ev ev' σ Q r hE e k;cases ds with
   |nil=>unfold yd at e;cases e
   | cons d ds=>
     unfold RepL at r;obtain⟨v,r',rfl,r1,r2⟩:=r;unfold yd at e;exact⟨v,r',rfl,ih r2 (hE.set r1 _) e k⟩
theorem zbr:∀{is:List Nat}{ds:List D}{ev ev':Ev},yd ev is ds=some ev'->ds.length=is.length
 | [],[],_,_,_=>rfl
 |i::is,d::ds,_,_,h=>by unfold yd at h;rw[List.length_cons,List.length_cons,zbr h]
 | [],_::_,_,_,h=>by unfold yd at h;cases h
 |_::_,[],_,_,h=>by unfold yd at h;cases h
theorem qq(hc:FB X e u){sa sb:List Stmt}(ha:FSs X sa a)(hb:FSs X sb b):FS X (.If e sa sb pos) (sIf u a b):=xi (zxz hc ha hb) fun σ H D h=>by
 obtain⟨ρ,ev,S,o,S',hE,hS,hf,k⟩:=h;obtain⟨⟨x,S1⟩,q1,hf⟩:=z8 hf;refine⟨ρ,ev,S,x,S1,hE,hS,q1,fun ρ1 H1 E1 hS1=>?_⟩;cases x with
 |true=>exact zw2 ⟨ρ1,ev,S1,o,S',hE.mono E1,hS1,hf,k.ext E1⟩
 |false=>exact zw3 ⟨ρ1,ev,S1,o,S',hE.mono E1,hS1,hf,k.ext E1⟩
theorem zo5{K mg ρ H}{n:Str}{d:D}{v:V}(r:Rep K mg ρ H d v):∀{fs:List (Str×D)}{vs:List (Str×V)},zs7 K mg ρ H fs vs->zs7 K mg ρ H (zo7 n d fs) (zc7 n v vs)
 | [],vs,h=>by
   obtain⟨h1,_⟩:=h;cases vs with
   |nil=>exact⟨rfl,RepL.cons r RepL.nil⟩
   |cons _ _=>cases h1
 | (a,b)::fs,vs,h=>by
   obtain⟨h1,h2⟩:=h;cases vs with
   |nil=>cases h1
   | cons q vs=>
     obtain⟨a',b'⟩:=q;simp only[z1g,z2l]at h1;obtain⟨h3,h4⟩:=h1;subst h3;rw[z1g,z1g]at h2;unfold RepL at h2;obtain⟨u,t,e1,r1,r2⟩:=h2;cases e1;rw[show zo7 n d ((a',b)::fs)=(if a'=n then (a',d)::fs else (a',b)::zo7 n d fs)from rfl,show zc7 n v ((a',b')::vs)=(if a'=n then (a',v)::vs else (a',b')::zc7 n v vs)from rfl];by_cases hn:a'=n
     · rw[z1t hn,z1t hn];exact⟨by simp[h4],RepL.cons r r2⟩
     · rw[z10 hn,z10 hn];obtain⟨i1,i2⟩:=zo5 r (fs:=fs) (vs:=vs) ⟨h4,r2⟩;exact⟨by rw[z1g,z1g,i1],RepL.cons r1 i2⟩
theorem zlz(hc:Fld X.K X.mg c n)(ho:FE X o f)(hv:FE X e g)(hs:swapsWith e (some (.Attribute o n pos')) pos.line X.env=pure false:=by rfl):FS X (.Assign [.Attribute o n pos'] e pos) (zi8 c n f g) :=
 xi (zt8 ho hv hs) fun σ H D h=>by
   obtain⟨ρ,ev,S,o,S',hE,hS,hf,k⟩:=h;obtain⟨⟨d,S1⟩,q1,hf⟩:=z8 hf;obtain⟨⟨y,S2⟩,q2,hf⟩:=z8 hf;obtain⟨⟨i,fs⟩,q3,hf⟩:=z8 hf;dsimp only at hf q3;split at hf
   · rename_i hl;cases hf;obtain⟨rfl,hi⟩:=zd7 q3;refine⟨ρ,ev,S,d,S1,hE,hS,q1,fun v ρ1 H1 E1 hS1 r1=>⟨ρ1,ev,S1,_,S2,hE.mono E1,hS1,q2,fun w ρ2 H2 E2 hS2 r2=>?_⟩⟩;obtain⟨b,C,dx,vs,rfl,hb1,hm',hb2,hb3⟩:=zgq hS2 hi r2;have e0:=zbc hS2 (.ins C dx (zc7 n v vs)) hb1;refine⟨b,C,dx,vs,rfl,hb2,(hc C hm').1,(hc C hm').2,by have:=z2f List.length hb3.1;simp at this;omega,?_⟩;have hf2:zs7 X.K X.mg ρ2 (upd H2 b (.ins C dx (zc7 n v vs))) (zo7 n d fs) (zc7 n v vs):=zo5 ((r1.mono E2).mono e0) ⟨hb3.1,hb3.2.mono e0⟩;exact k σ ρ2 _ ((E1.trans E2).trans e0) (hS2.set hb1 ⟨C,dx,_,hm',ql,hf2⟩) (((hE.mono E1).mono E2).mono e0)
   · cases hf
section
variable {K:zFr}{mg:zMg}{ρ1:List Addr}{H1:Hp}{E:Ends}{S':Sto}{o:Out}{i:Nat}
def zjv(K:zFr)(mg:zMg)(ρ1:List Addr)(H1:Hp)(i:Nat)(body:C)(o:Out)(S':Sto)(ds:List D)(σ:St)(H:Hp):Prop :=
 ∃ρ ev S,Ext ρ1 H1 ρ H/\StOk K mg ρ H S/\EnvR K mg ρ H ev σ/\yc i body ds ev S=some (o,S')
theorem zgk{d:D}{ds:List D}{x:V}{σ:St}{H:Hp}{ρ:List Addr}{ev:Ev}{S:Sto}(k:Post K mg E S' ρ1 H1 o)(e0:Ext ρ1 H1 ρ H)(hS:StOk K mg ρ H S)(hE:EnvR K mg ρ H ev σ)(r:Rep K mg ρ H d x)(hl:yc i body (d::ds) ev S=some (o,S')) :
   tC K mg body { E with nx:=zjv K mg ρ1 H1 i body o S' ds,ct:=zjv K mg ρ1 H1 i body o S' ds,bk:=E.nx } (σ.set i (some x)) H:=by
 obtain⟨⟨o1,S3⟩,q,hl⟩:=z8 hl;refine⟨ρ,ev.set i (some d),S,o1,S3,hE.set r i,hS,q,?_⟩;cases o1 with
 |nx e=>exact fun σ' ρ' H' E' hS' hE'=>⟨ρ',e,S3,e0.trans E',hS',hE',hl⟩
 |ct e=>exact fun σ' ρ' H' E' hS' hE'=>⟨ρ',e,S3,e0.trans E',hS',hE',hl⟩
 |bk e=>cases hl;exact fun σ' ρ' H' E' hS' hE'=>k σ' ρ' H' (e0.trans E') hS' hE'
 |rt y=>cases hl;exact fun v ρ' H' E' hS' r'=>k v ρ' H' (e0.trans E') hS' r'
theorem zc5{σ:St}{H:Hp}(k:Post K mg E S' ρ1 H1 o)(h:zjv K mg ρ1 H1 i body o S' [] σ H):E.nx σ H:=by obtain⟨ρ,ev,S,e0,hS,hE,hl⟩:=h;cases hl;exact k σ ρ H e0 hS hE
end
theorem zg3(i:Nat){l:Expr}{px:Pos}{sb:List Stmt}(hN:X.N.Nodup)(hl:FE X l f)(hb:FSs X sb body)(hp:PassesOwn (model X.prog X.w) X.A X.env X.xe)(hc:X.calm=true:=by rfl)(hi:X.N[i]? = some x:=by rfl)(hx:Loc X.env.scope x:=by first | exact Or.inl rfl | exact Or.inr rfl)
   (hf:X.fn x=true\/X.env.scope.names.lookup x=some .local:=by first | exact .inl rfl | exact .inr rfl | assumption) (hs:∀v,foldedSetIterable l X.env v=pure v:=by intro _;rfl) :
   FS X (.For (.Name x px) l sb [] pos) (zfb i f body) :=
 xi (zh7 hp hc (zkv hl) (zcj hN hi hx hf) hb hs) fun σ H D h=>by
   obtain⟨ρ,ev,S,o,S',hE,hS,hf,k⟩:=h;obtain⟨⟨d,S1⟩,q1,hf⟩:=z8 hf;cases d with
   | lst ds=>
     refine⟨ρ,ev,S,_,S1,hE,hS,q1,fun v ρ1 H1 E1 hS1 r1=>?_⟩;unfold Rep at r1;obtain⟨p,vs,rfl,t,r⟩:=r1;have k1:=k.ext E1;refine⟨p,rfl,⟨vs,t.sq⟩,zn2 (K:=X.K) (a:=p) (xs:=vs) (fun j σ' H'=>zjv X.K X.mg ρ1 H1 i body o S' (ds.drop j) σ' H') ⟨ρ1,ev,S1,Ext.refl _ _,hS1,hE.mono E1,hf⟩ (fun j σ' H' _ ⟨ρ',ev',S2,e0,_⟩=>(t.mono e0).sq) ?_ ?_⟩
     · rintro j y σ' H' hj ⟨ρ',ev',S2,e0,hS2,hE2,hl2⟩;have hjl:j<ds.length:=by rw[r.length];exact(z06.mp hj).1
       have ed:ds.drop j=ds[j]::ds.drop (j+1):=z18 hjl;obtain⟨y',ey,ry⟩:=(r.mono e0).get (z08 hjl);rw[hj]at ey;cases ey;rw[ed]at hl2;exact zgk k1 e0 hS2 hE2 ry hl2
     · intro σ' H' ha;rw[z25 (by rw[r.length];exact z07 _)]at ha;exact zc5 k1 ha
   |_=>cases hf
theorem zm8{K mg}{ρ1:List Addr}{H1:Hp}{E:Ends}{S' S1:Sto}{o:Out}{i n:Nat}{lo:Int}{σ:St}{ev:Ev}(k:Post K mg E S' ρ1 H1 o)(hS1:StOk K mg ρ1 H1 S1)(hE:EnvR K mg ρ1 H1 ev σ)(hf:yc i body (qo lo n) ev S1=some (o,S')) :
   ∃W:Nat->Nat->St->Hp->Prop,(∃m,W 0 m σ H1)/\∀j m σ H,W j m σ H ->
     ((Itr lo n).stop j H/\E.nx σ H)\/((Itr lo n).go j H/\∃N:St->Hp->Prop,(∀σ' H',N σ' H'->∃m',m'<m/\W (j+1) m' σ' H')/\∀x H',(Itr lo n).yld j H x H'->zft i x σ H' fun σ2 H2=>tC K mg body { E with nx:=N,ct:=N,bk:=E.nx } σ2 H2):=by
 refine zl0 (g:=zft i) (fun j σ' H'=>zjv K mg ρ1 H1 i body o S' ((qo lo n).drop j) σ' H') ⟨ρ1,ev,S1,Ext.refl _ _,hS1,hE,hf⟩ ?_ ?_
 · rintro j σ' H' hj ⟨ρ',ev',S2,e0,hS2,hE2,hl2⟩;have hjl:j<(qo lo n).length:=by unfold qo;simpa using hj
   have ed:(qo lo n).drop j=(qo lo n)[j]::(qo lo n).drop (j+1):=z18 hjl;rw[ed]at hl2;refine zgk k e0 hS2 hE2 ?_ hl2;have:(qo lo n)[j]=D.int (lo+(j:Int)):=by simp[qo]
   rw[this];exact rfl
 · intro σ' H' ha;rw[z25 (by unfold qo;simp)]at ha;exact zc5 k ha
theorem zly(i:Nat){l:Expr}{px p2 p3:Pos}{sb:List Stmt}(hN:X.N.Nodup)(hm:X.mg "range"=none)(hl:FE X l f)(hb:FSs X sb body)(hp:PassesOwn (model X.prog X.w) X.A X.env X.xe)(hg:Gl X "range":=by rfl)(hc:X.calm=true:=by rfl)(hi:X.N[i]? = some x:=by rfl)(hx:Loc X.env.scope x:=by first | exact Or.inl rfl | exact Or.inr rfl)
   (hf:X.fn x=true\/X.env.scope.names.lookup x=some .local:=by first | exact .inl rfl | exact .inr rfl | assumption) (hst:starEach [l] X.env=[(false,eval l X.env)]:=by exact q0 rfl) (hs:∀v,foldedSetIterable (.Call (.Name "range" p2) [l] [] p3) X.env v=pure v:=by intro _;rfl) :
   FS X (.For (.Name x px) (.Call (.Name "range" p2) [l] [] p3) sb [] pos) (zgo i f body) :=
 xi (zh7 hp hc (zff hg hm (za hl zb hst) hst) (zcj hN hi hx hf) hb hs) fun σ H D h=>by
   obtain⟨ρ,ev,S,o,S',hE,hS,hf,k⟩:=h;obtain⟨⟨d,S1⟩,q1,hf⟩:=z8 hf;cases d with
   | int j=>
     dsimp only at hf;split at hf
     · rename_i hj;refine⟨ρ,ev,S,[.int j],S1,hE,hS,by simp only[aC,aN,q1,Option.bind_some],fun vs ρ1 H1 E1 hS1 r1=>?_⟩;unfold RepL at r1;obtain⟨v,r,rfl,r2,r3⟩:=r1;unfold RepL at r3;subst r3;exact⟨j,by rw[show v=.int j from r2],hj.1,hj.2,zm8 (k.ext E1) hS1 (hE.mono E1) hf⟩
     · cases hf
   |_=>cases hf
theorem zn0(m:Nat){sb:List Stmt}(hc:FB X e u)(hb:FSs X sb body)(hp:PassesOwn (model X.prog X.w) X.A X.env X.xe):FS X (.While e sb [] pos) (zo1 m u body) :=
 xi (zne hp hc hb) fun σ H D h=>by
   obtain⟨ρ,ev,S,o,S',hE,hS,hf,k⟩:=h;refine⟨fun j σ' H'=>∃ρ' ev' S2,Ext ρ H ρ' H'/\StOk X.K X.mg ρ' H' S2/\EnvR X.K X.mg ρ' H' ev' σ'/\zbw u body j ev' S2=some (o,S'),⟨m,ρ,ev,S,Ext.refl _ _,hS,hE,hf⟩,?_⟩;rintro j σ' H' ⟨ρ',ev',S2,e0,hS2,hE2,hl⟩;cases j with
   |zero=>cases hl
   | succ j=>
     obtain⟨⟨c,S3⟩,q1,hl⟩:=z8 hl;refine⟨ρ',ev',S2,c,S3,hE2,hS2,q1,fun ρ3 H3 E3 hS3=>?_⟩;cases c with
     | true=>
       obtain⟨⟨o1,S4⟩,q2,hl⟩:=z8 hl;refine⟨_,fun σ' H' h=>⟨j,z3b j,h⟩,⟨ρ3,ev',S3,o1,S4,hE2.mono E3,hS3,q2,?_⟩⟩;cases o1 with
       |nx e=>exact fun σ4 ρ4 H4 E4 hS4 hE4=>⟨ρ4,e,S4,(e0.trans E3).trans E4,hS4,hE4,hl⟩
       |ct e=>exact fun σ4 ρ4 H4 E4 hS4 hE4=>⟨ρ4,e,S4,(e0.trans E3).trans E4,hS4,hE4,hl⟩
       |bk e=>cases hl;exact fun σ4 ρ4 H4 E4 hS4 hE4=>k σ4 ρ4 H4 ((e0.trans E3).trans E4) hS4 hE4
       |rt y=>cases hl;exact fun v ρ4 H4 E4 hS4 r4=>k v ρ4 H4 ((e0.trans E3).trans E4) hS4 r4
     |false=>cases hl;exact k σ' ρ3 H3 (e0.trans E3) hS3 (hE2.mono E3)
end
open PySem.Spec PyProof.Rows
structure FunD (K:zFr) (x qual:Str) (st:Stmt) (f:Addr) (fd:FuncData) (dV:Value):Prop where
 ex:∃(oc:Value) (od:Option Addr) (kV doc pm:Value) (an:Option Addr) (cdv ct:Value) (osl:Array (Option Value)),
   fd=PySem.W.fnOf x qual (zbd st) (xk st) (zj st) dV kV doc pm an cdv ct/\K.lookup f=some ⟨oc,od,.func fd,osl⟩/\PySem.W.codeIn K cdv qual=true
 kp:PySem.W.keepIn K (.ref f)=true
theorem zmk{N n c ds S r}(h:z5 N n c ds S=some r):ds.length=n:=by
 unfold z5 at h;split at h
 · rename_i hl;exact hl
 · cases h
theorem zsp{K mg}{c:C}{N:List Str}{n:Nat}{vs:List V}{H:Hp}{Q:VK}{E:XK}(h:spG K mg (z5 N.length n c) vs H Q E):tC K mg c { nx:=fun _ H'=>Q .non H',rt:=Q } (start N vs) H:=by
 obtain⟨ρ,ds,S,d,S',r,hS,hf,k⟩:=h;unfold z5 at hf;split at hf
 · split at hf
   · rename_i e S1 hc;cases hf;exact⟨ρ,_,S,_,_,EnvR.start r,hS,hc,fun σ' ρ' H' E' hS' _=>k .non ρ' H' E' hS' rfl⟩
   · rename_i e S1 hc;cases hf;exact⟨ρ,_,S,_,_,EnvR.start r,hS,hc,k⟩
   · cases hf
 · cases hf
theorem FunD.ok{P:Program}{w:World}{K:zFr}{mg:zMg}{base:Heap}{x qual:Str}{st:Stmt}{f:Addr}{fd:FuncData}{dV:Value}{N ps:List Str}{k:Nat}{c:C}(F:FunD K x qual st f fd dV)(S:FnScope N ps (zj st))
   (hbody:∀(cdv:Value) (A:Around) (outer:List Env) (s:Shared) (H:Hp) (E:XK),Room k (A.deeper (envOfC qual (zj st) s.heap.objs.size f cdv)) ->
     FSs (zgj CX0 P w K mg base N qual (zj st) f cdv A outer s H E).nox (xk st) c):FnOk P w K mg base CX0 (k+1) f fd ps (spG K mg (z5 N.length ps.length c)):=by
 obtain⟨oc,od,kV,doc,pm,an,cdv,ct,osl,rfl,lk,hcd⟩:=F.ex;refine zyu lk hcd S (fun vs H Q E h=>?_) fun A outer s H vs Q E hr hsp=>?_
 · obtain⟨ρ,ds,S,d,S',r,hS,hf,k⟩:=h;rw[<-r.length];exact zmk hf
 · exact⟨_,(hbody cdv A outer s H E hr).nox,zsp hsp⟩
def zf2(cells:zLA):List (Str×NameKind)->zLA->zLA
 | [],acc=>acc
 | (n,k)::r,acc=>zf2 cells r (if k=.free then (match cells.lookup n with | some c=>(n,c)::acc | none=>acc)else acc)
theorem zca{cells:zLA}:∀{names:List (Str×NameKind)}{acc:zLA},(∀x c,acc.lookup x=some c->cells.lookup x=some c)->∀x c,(zf2 cells names acc).lookup x=some c->cells.lookup x=some c
 | [],_,h=>h
 | (n,k)::r,acc,h=>by
   unfold zf2;refine zca (names:=r) ?_;intro x c;split
   · split
     · rename_i c' e;intro q;simp only[List.lookup]at q;split at q
       · rename_i hx;cases q;rw[z3r.mp hx];exact e
       · exact h x c q
     · exact h x c
   · exact h x c
theorem ziu{cells:zLA}{x:Str}:∀{names:List (Str×NameKind)}{acc:zLA},(∃c,acc.lookup x=some c)->∃c,(zf2 cells names acc).lookup x=some c
 | [],_,h=>h
 | (n,k)::r,acc,h=>by
   unfold zf2;refine ziu (names:=r) ?_;split
   · split
     · rename_i c' e;simp only[List.lookup];split
       · exact⟨_,rfl⟩
       · exact h
     · exact h
   · exact h
theorem zer{cells:zLA}{x:Str}(hx:∃c,cells.lookup x=some c):∀{names:List (Str×NameKind)}{acc:zLA},(x,NameKind.free)∈names->∃c,(zf2 cells names acc).lookup x=some c
 | [],_,h=>by cases h
 | (n,k)::r,acc,h=>by
   unfold zf2;rcases z1e.mp h with e | h
   · cases e;refine ziu ?_;obtain⟨c,hc⟩:=hx;rw[z1t rfl,hc];exact⟨c,by simp[List.lookup]⟩
   · exact zer hx h
theorem zeq{scope:Scope}{env:Env}(h:∀p∈scope.names,p.2=NameKind.free->∃c,env.cells.lookup p.1=some c):closureFor scope env=pure (zf2 env.cells scope.names []):=by
 unfold closureFor;generalize scope.names=names at h;have key:∀(names:List (Str×NameKind)) (acc:zLA),(∀p∈names,p.2=NameKind.free->∃c,env.cells.lookup p.1=some c) ->
     (forIn names acc fun(x:Str×NameKind) (cs:zLA)=>(do
       if(x.2==NameKind.free)=true then do
         let a <-cellOf env x.1
         pure (ForInStep.yield ((x.1,a)::cs))
       else pure (ForInStep.yield cs):Sem (ForInStep (zLA))))=pure (zf2 env.cells names acc):=by
   intro names
   induction names with
   |nil=>intro acc _;rfl
   | cons p r ih=>
     intro acc h;obtain⟨n,k⟩:=p;rw[List.forIn_cons];unfold zf2;by_cases hk:k=.free
     · subst hk;obtain⟨c,hc⟩:=h (n,.free) z1j rfl;have hc':env.cells.lookup n=some c:=hc;simp only[beq_self_eq_true,z4e,cellOf,hc',pure_bind];exact ih _ fun q hq=>h q (z09 _ hq)
     · have hb:(k==NameKind.free)=false:=by simpa using hk
       simp only[hb,z3m,if_false,pure_bind,z10 hk];exact ih _ fun q hq=>h q (z09 _ hq)
 have:=key names [] h
 first
   | (simp only[bind_pure];exact this)
   | (rw[show(fun(x:Str×NameKind) (cs:zLA)=>_)=_ from rfl];exact this)
   |exact this
def zg7(ev:Ev)(i:Nat):Option D:=match ev[i]? with
 |some o=>o
 |none=>none
def ze4(σ:L2.St)(i:Nat):Option V:=match σ[i]? with
 |some o=>o
 |none=>none
def kg(X:Cx)(N':List Str)(scope:Scope)(s₀:Shared)(H₀:Hp)(C:Addr)(ex:List Addr):Cx :=
 { X with N:=N',s₀:=s₀,H₀:=H₀,env:=compEnvC scope (zf2 X.env.cells scope.names []) C X.env,outer:=X.stack,ex:=ex,fn:=fun _=>false,pn:=[],xe:=fun _ _=>False }
section
variable {X:Cx}{pins:zAO}{σ:L2.St}{H:Hp}{s:Shared}{scope:Scope}{x:Str}{N':List Str}{fr:List Nat}
structure CompOk (X:Cx) (scope:Scope) (x:Str) (N':List Str) (fr:List Nat):Prop where
 nd:(x::N').Nodup
 hx:scope.names.lookup x=some .local
 kind:scope.kind=.function
 frn:fr.map (fun j=>X.N[j]?)=N'.map some
 frk:∀y∈N',X.env.kindOf y=some .cell/\(relabel scope X.env).names.lookup y=some .cell
 chk:∀p∈scope.names,p.2≠.cell/\(p.2=.free->X.env.kindOf p.1=some .cell)/\(p.2=.local->scope.names.lookup p.1=some .local)
theorem zbn(nd:(x::N').Nodup)(hx:scope.names.lookup x=some .local)(kind:scope.kind=.function)(frn:fr.map (fun j=>X.N[j]?)=N'.map some)
   (frk:(N'.all fun y=>X.env.kindOf y==some NameKind.cell&&(relabel scope X.env).names.lookup y==some NameKind.cell)=true)
   (chk:(scope.names.all fun p=>p.2 != NameKind.cell&&(p.2 != NameKind.free||X.env.kindOf p.1==some NameKind.cell)&&(p.2 != NameKind.local||scope.names.lookup p.1==some NameKind.local))=true):CompOk X scope x N' fr:=by
 refine⟨nd,hx,kind,frn,fun y hy=>?_,fun p hp=>?_⟩
 · have:=z12.mp frk y hy;simpa using this
 · have:=z12.mp chk p hp;simp only[z15,Bool.or_eq_true,bne_iff_ne,z3r]at this;exact⟨this.1.1,fun e=>this.1.2.resolve_left (fun z=>z e),fun e=>this.2.resolve_left (fun z=>z e)⟩
theorem zdq{α:Type}{x:Str}{k:α}:∀{l:List (Str×α)},l.lookup x=some k->(x,k)∈l
 | [],h=>by cases h
 | (n,a)::r,h=>by
   simp only[List.lookup]at h;split at h
   · rename_i e;cases h;rw[z3r.mp e];exact z1j
   · exact z09 _ (zdq h)
theorem CompOk.free(c:CompOk X scope x N' fr){y:Str}(h:(relabel scope X.env).names.lookup y=some .cell\/(relabel scope X.env).names.lookup y=some .free):(y,NameKind.free)∈scope.names:=by
 have go:∀k,(k=NameKind.cell\/k=.free)->(relabel scope X.env).names.lookup y=some k->(y,NameKind.free)∈scope.names:=by
   intro k hk e;have m:=zdq e;unfold relabel at m;obtain⟨⟨n,k0⟩,hm,e2⟩:=z1x.mp m;dsimp only at e2;split at e2
   · rename_i hc;cases e2;have:k0=.free:=by rw[z15,z15]at hc;simpa using hc.1.1
     subst this;exact hm
   · cases e2;rcases hk with rfl | rfl
     · exact absurd rfl (c.chk _ hm).1
     · exact hm
 rcases h with h | h
 · exact go _ (.inl rfl) h
 · exact go _ (.inr rfl) h
theorem CompOk.start(c:CompOk X scope x N' fr)(I:Inv X pins σ H s){fp:List Addr}(hf:∀b∈fp,zms X pins H b)(hfl:∀b∈fp,b<s.heap.objs.size){C:Addr}(hC:s.heap.objs.size<=C){h1:Heap}{m:zMg}{t':Nat}(hk:∀b o,s.heap.get? b=some o->h1.get? b=some o)(hn:h1.Ns C m) :
   Inv (kg X (x::N') scope s H C fp) [] (none::fr.map (ze4 σ)) H { s with heap:=h1,toks:=t' }:=by
 have sub:∀y a,(zf2 X.env.cells scope.names []).lookup y=some a->X.env.cells.lookup y=some a:=zca (fun _ _ h=>by cases h);have hfs:∀b∈frs X.stack,H b=none:=I.stkFree;have cellt:∀y a,X.env.cells.lookup y=some a->a<s.heap.objs.size:=fun y a e=>by obtain⟨v,q⟩:=I.cell y a e;exact q.lt
 refine⟨⟨I.ok.mod,c.kind,I.ok.glob,I.ok.blt,hC,fun y z a h1 h2=>I.ok.inj y z a (sub _ _ h1) (sub _ _ h2),fun y hy=>?_,fun y a h=>?_,I.ok.hd,I.ok.frames,.inl rfl,fun b hb=>⟨z1o (z1d (hfl b hb) hC),fun y a e=>(hf b hb).2.2.2.2.1 y a (sub _ _ e)⟩,I.bs,z1u I.ok.bsz I.sz,fun b o e hb=>?_,fun b hb z=>?_,I.stack,hfs⟩,
   rfl,I.bare,Un.kept hk,⟨m,hn,fun i y v e1 e2 e3=>?_⟩,fun y a e=>?_,I.hok.fresh hC,fun y a e=>I.freeC y a (sub _ _ e),fun p hp=>absurd hp (by simp[kg]),I.hok.kept hk,?_⟩
 · exact zer (I.ok.has y (.inl ((c.chk _ (c.free hy)).2.1 rfl))) (c.free hy)
 · cases h
 · have:=(I.bs b o e).1;have z:=hf b hb;rcases z.2.2.2.1 with z | z
   · exact I.ok.noex b o e z
   · have:=(I.ok.bs b o e).1;exact absurd (z1d (z1l this) z) (z20 _)
 · rcases z1e.mp (I.stkSub b z)with e | e
   · exact(hf b hb).2.1 e
   · exact(hf b hb).2.2.1 e
 · cases i with
   |zero=>simp at e2
   | succ i=>
     have e1:N'[i]? = some y:=by simpa [kg] using e1
     have e2:(fr.map (ze4 σ))[i]? = some (some v):=by simpa using e2
     rw[z1r]at e2;cases ej:fr[i]? with
     |none=>rw[ej]at e2;cases e2
     | some j=>
       rw[ej]at e2;have e2:ze4 σ j=some v:=by simpa using e2
       have hv:σ[j]? = some (some v):=by
         unfold ze4 at e2;split at e2
         · rename_i o ho;rw[ho,e2]
         · cases e2
       have hN:X.N[j]? = some y:=by have q:=z2f (fun l=>l[i]?) c.frn;simp only[z1r,ej,e1,Option.map_some,Option.some.injEq]at q;exact q
       obtain⟨k1,k2⟩:=c.frk y (z1m e1);obtain⟨mm,_,hl⟩:=I.loc;obtain⟨u,r,l⟩:=hl j y v hN hv (.inr (.inl k1));refine⟨u,r,?_⟩;rcases l with⟨k,_⟩ | ⟨_,a,ha,hcl⟩
       · rw[k1]at k;cases k
       · refine .inr ⟨.inl k2,a,?_,?_⟩
         · obtain⟨a',ha'⟩:=zer (cells:=X.env.cells) (names:=scope.names) (acc:=[]) ⟨a,ha⟩ (c.free (.inl k2));have:=sub _ _ ha';rw[ha]at this;cases this;exact ha'
         · obtain⟨o,ho,hd⟩:=hcl;exact⟨o,hk _ _ ho,hd⟩
 · obtain⟨v,o,ho,hd⟩:=I.cell y a (sub _ _ e);exact⟨v,o,hk _ _ ho,hd⟩
 · have:=z2f List.length c.frn;simp at this;simp[kg,this]
theorem Inv.track{p:Addr}{ys:List V}{its:List Value}{n:Nat}(I:Inv X pins σ H s)(hn:H p=none)(ho:s.heap.get? p=some { cls:=.type "list",data:=.seq its.toArray n })(r:Vals ys its)(hz:ys.length<=sizeLine)
   (h1:p∈X.ex\/X.s₀.heap.objs.size<=p) (hL:p≠X.env.locals) (h2:∀x c,X.env.cells.lookup x=some c->c≠p) (h3:∀q∈X.pn++pins,q.1≠p):Inv X pins σ (upd H p (.lst ys)) s:=by
 refine I.step (g':=s.gens) (d':=s.drawn) (h':=s.heap) (t':=s.toks) (ch:=[p]) (fun b hb=>?_) (fun b o _ _ _ e _=>e) (fun b o _ _ _ e _=>⟨o.slots,e⟩) (fun b o hc e n=>?_) (fun b o _ e=>⟨o,e⟩) (fun b xs e=>?_) (fun b o u e=>?_) (fun b ps e=>⟨#[],?_⟩) (fun _ hm=>hm) (fun b u e=>?_) I.bare
 · rw[z05.mp hb];exact⟨h1,hL,h2,h3⟩
 · rw[qg (fun z=>hc (by simp[z]))];exact n
 · rw[qg (qy e hn)];exact e
 · rw[qg (qy e hn)];exact e
 · rw[qg (qy e hn),e];simp
 · by_cases hb:b=p
   · subst hb;rw[ql]at e;cases e;exact⟨hz,its,n,r,ho⟩
   · rw[qg hb]at e;exact(I.hok b u e).stay (fun _ _ _ q=>q) (fun c q=>by rw[qg (qy q hn)];exact q) fun c xs q=>by rw[qg (qy q hn)];exact q
theorem zgn{P:Program}{w:World}{H:Hp}{h h':Heap}{c:Addr}(hok:HOk P w H h)(hs:Heap.SameBut c h h')(hn:H c=none):HOk P w H h':=fun b ob e=>by
 refine(hok b ob e).stay (fun d o hd q=>(hs.2 d ?_).trans q) (fun _ q=>q) fun _ _ q=>q;rintro rfl;rcases hd with rfl | hd
 · rw[hn]at e;cases e
 · rw[hn]at hd;cases hd
end
def IB(i:Int):Prop:=i.natAbs<2^4096
instance (i:Int):Decidable (IB i):=inferInstanceAs (Decidable (_<_))
def qm:D->D->Option D
 | .int i,.int j=>some (.int (i+j))
 | .str x,.str y=>if x.length+y.length<=sizeLine then some (.str (x++y))else none
 | .lst a,.lst b=>if a.length+b.length<=sizeLine then some (.lst (a++b))else none
 | .tup a,.tup b=>if a.length+b.length<=sizeLine then some (.tup (a++b))else none
 |_,_=>none
def opI(g:Int->Int->Option Int):D->D->Option D
 | .int i,.int j=>(g i j).map D.int
 |_,_=>none
def zk2(g:Int->Int->Bool):D->D->Option D
 | .int i,.int j=>some (.bl (g i j))
 |_,_=>none
def zwy(i j:Int):Option Int:=if(-(2^64)<i/\i<2^64)\/(-(2^64)<j/\j<2^64)\/(IB i/\IB j)then some (i*j)else none
def zy2(i j:Int):Option Int:=if 0<j/\j<1073741824 then some (i/j)else none
def zx8(i j:Int):Option Int:=if 0<j then some (i%j)else none
def y6:D->D->Option D:=opI fun i j=>some (i-j)
def ki:D->D->Option D:=opI zwy
def yb:D->D->Option D:=opI zy2
def q9:D->D->Option D:=opI zx8
def zbp:D->D->Option D:=zk2 fun i j=>decide (i<j)
def zc8:D->D->Option D:=zk2 fun i j=>decide (i<=j)
def zck:D->D->Option D:=zk2 fun i j=>decide (j<i)
def zpf:D->D->Option D:=zk2 fun i j=>decide (j<=i)
def zlo:D->Bool
 | .non=>true
 |_=>false
def zdb:D->D->Option D
 |d,.non=>some (.bl (zlo d))
 | .bl a,.bl b=>some (.bl (a==b))
 |_,_=>none
def ji:D->D->Option D
 |d,.non=>some (.bl (!zlo d))
 | .bl a,.bl b=>some (.bl (a != b))
 |_,_=>none
def qf(S:Sto):D->D->Option D
 | .lst ds,.int i=>atI ds i
 | .tup ds,.int i=>atI ds i
 | .str z,.int i=>if z.length<=sizeLine then (atI z.cps.toList i).map fun c=>.str ⟨#[c]⟩else none
 | .obj a,.int i=>(match S[a]? with
   |some (.lst ds)=>atI ds i
   |_=>none)
 |_,_=>none
section
variable {X:Cx}{K:zFr}{mg:zMg}
theorem Rep.refI{ρ H i v}(h:Rep K mg ρ H (.int i) v):v=.int i:=h
theorem Rep.refS{ρ H i v}(h:Rep K mg ρ H (.str i) v):v=.str i:=h
theorem Rep.refT{ρ H ds v}(h:Rep K mg ρ H (.tup ds) v):∃p vs,v=.ref p/\TupAt K ρ H p vs/\RepL K mg ρ H ds vs:=by unfold Rep at h;exact h
theorem Rep.refL{ρ H ds v}(h:Rep K mg ρ H (.lst ds) v):∃p vs,v=.ref p/\LstAt K ρ H p vs/\RepL K mg ρ H ds vs:=by unfold Rep at h;exact h
def ztz(K:zFr):R2:=fun x y H Q=>∃l b xs zs,x=.ref l/\y=.ref b/\SqL K H l xs/\SqL K H b zs/\xs.length+zs.length<=sizeLine/\∀p,H p=none->Q (.ref p) (upd H p (.lst (xs++zs)))
theorem op_catL:OpR X (binaryOp .Add) (ztz X.K):=by
 intro pins s σ H x y v u Q I rx ry h;obtain⟨l,b,xs,zs,rfl,rfl,hH,hB,hz,q⟩:=h;cases rx;cases ry;obtain⟨its,r,pl,_⟩:=I.list hH;obtain⟨its2,r2,pl2,_⟩:=I.list hB;obtain⟨⟨cls,dd,data,sl⟩,ho,hc,n,hd⟩:=pl.isList;obtain⟨⟨cls2,dd2,data2,sl2⟩,ho2,hc2,n2,hd2⟩:=pl2.isList;simp only at hc hd hc2 hd2;subst hc hd hc2 hd2;have e:its.toArray++its2.toArray=(its++its2).toArray:=by simp
 have h1:=r.length;have h2:=r2.length;refine z4d ⟨_,ho,rfl⟩ ⟨_,ho2,rfl⟩ noFill_list_add seq_list_add PySem.F.slot_list_add PySem.F.entry_list_add (PySem.F.args_list_add_2 _ _) (list_addW l b its.toArray its2.toArray n n2 dd dd2 sl sl2 (by simp only[z1h];omega)) ⟨ho,ho2,?_⟩;rw[e];exact⟨.ref _,_,I.lnew (t':=s.toks) (r.append r2) (by rw[z03];omega),rfl,q _ I.fresh⟩
def zo3(K:zFr):R2:=fun x y H Q=>∃a b ys,x=.ref a/\y=.ref b/\SqT K H a []/\SqT K H b ys/\Q (.ref b) H
theorem znn:OpR X (binaryOp .Add) (zo3 X.K):=by
 intro pins s σ H x y v u Q I rx ry h;obtain⟨a,b,ys,rfl,rfl,ha,hb,q⟩:=h;cases rx;cases ry;obtain⟨its,r1,p1,_⟩:=I.tuple ha;obtain⟨its2,r2,p2,_⟩:=I.tuple hb;cases r1;obtain⟨⟨cls,dd,data,sl⟩,ho,hc,n,hd⟩:=id p1;obtain⟨⟨cls2,dd2,data2,sl2⟩,ho2,hc2,n2,hd2⟩:=id p2;simp only at hc hd hc2 hd2;subst hc hd hc2 hd2;exact z4d ⟨_,ho,rfl⟩ ⟨_,ho2,rfl⟩ noFill_tuple_add seq_tuple_add z3p z3j (z3e _ _)
   (tuple_addW0 a b _ _ n n2 dd dd2 sl sl2 rfl) ⟨ho,ho2,⟨.ref b,H,I,rfl,q⟩⟩
theorem zqq:ze5 K mg (fun x y H Q=>rI0 (fun i j=>.int (i+j)) x y H Q\/(∃i j,x=.str i/\y=.str j/\i.length+j.length<=sizeLine/\Q (.str (i++j)) H)\/ztz K x y H Q\/zty K x y H Q\/zo3 K x y H Q) (fun _=>qm):=by
 intro ρ H S x y dx dy d Q hS rx ry e k;replace e:qm dx dy=some d:=e;unfold qm at e;split at e
 · rename_i i j;cases e;rw[rx.refI,ry.refI];exact .inl ⟨i,j,rfl,rfl,k _ H (Ext.refl _ _) hS rfl⟩
 · rename_i i j;split at e
   · rename_i hl;cases e;rw[rx.refS,ry.refS];exact .inr (.inl ⟨i,j,rfl,rfl,hl,k _ H (Ext.refl _ _) hS rfl⟩)
   · cases e
 · rename_i a b;split at e
   · rename_i hl;cases e;obtain⟨p,vs,rfl,t1,r1⟩:=rx.refL;obtain⟨q,us,rfl,t2,r2⟩:=ry.refL;refine .inr (.inr (.inl ⟨p,q,vs,us,rfl,rfl,t1.sq,t2.sq,by rw[<-r1.length,<-r2.length];exact hl,fun z hz=>?_⟩));exact k _ _ (kf hS _ hz) (hS.new _ hz) (Rep.lst (s:=hS) hz (r1.append r2))
   · cases e
 · rename_i a b;split at e
   · rename_i hl;cases e;obtain⟨p,vs,rfl,t1,r1⟩:=rx.refT;obtain⟨q,us,rfl,t2,r2⟩:=ry.refT;cases a with
     | nil=>
       have:=r1.length;cases vs with
       |nil=>exact .inr (.inr (.inr (.inr ⟨p,q,us,rfl,rfl,t1.sq,t2.sq,k _ H (Ext.refl _ _) hS ry⟩)))
       |cons _ _=>simp at this
     | cons a0 a=>
       refine .inr (.inr (.inr (.inl ⟨p,q,vs,us,rfl,rfl,t1.sq,t2.sq,?_,by rw[<-r1.length,<-r2.length];exact hl,fun z=>?_,fun z w hw=>?_⟩)))
       · intro z;have:=r1.length;subst z;simp at this
       · have:=r2.length;subst z;cases b with
         |nil=>rw[z1z]at k;exact k _ H (Ext.refl _ _) hS rx
         |cons _ _=>simp at this
       · exact k _ _ (kf hS _ hw) (hS.new _ hw) (Rep.tup (s:=hS) hw (r1.append r2))
   · cases e
 · cases e
theorem qz{a b:Expr}{f g:E}{pos:Pos}(ha:FE X a f)(hb:FE X b g):FE X (.BinOp a .Add b pos) (e2 qm f g) :=
 zfv (op_add.or (op_add_str.or (op_catL.or (op_catT.or znn)))) zqq ha hb
theorem zqs{C:Int->Int->Prop}{gV:Int->Int->Int}{g:Int->Int->Option Int}(h:∀i j z,g i j=some z->C i j/\z=gV i j):ze5 K mg (rI C fun i j=>.int (gV i j)) (fun _=>opI g):=by
 intro ρ H S x y dx dy d Q hS rx ry e k;replace e:opI g dx dy=some d:=e;unfold opI at e;split at e
 · rename_i i j;obtain⟨z,e1,e⟩:=zbs e;cases e;obtain⟨hc,rfl⟩:=h i j z e1;rw[rx.refI,ry.refI];exact⟨i,j,rfl,rfl,hc,k _ H (Ext.refl _ _) hS rfl⟩
 · cases e
theorem ztr{gV:Int->Int->Int}:ze5 K mg (rI0 fun i j=>.int (gV i j)) (fun _=>opI fun i j=>some (gV i j)):=by
 intro ρ H S x y dx dy d Q hS rx ry e k;replace e:opI _ dx dy=some d:=e;unfold opI at e;split at e
 · rename_i i j;cases e;rw[rx.refI,ry.refI];exact⟨i,j,rfl,rfl,k _ H (Ext.refl _ _) hS rfl⟩
 · cases e
theorem zag{g:Int->Int->Bool}:ze5 K mg (rI0 fun i j=>.bl (g i j)) (fun _=>zk2 g):=by
 intro ρ H S x y dx dy d Q hS rx ry e k;replace e:zk2 g dx dy=some d:=e;unfold zk2 at e;split at e
 · rename_i i j;cases e;rw[rx.refI,ry.refI];exact⟨i,j,rfl,rfl,k _ H (Ext.refl _ _) hS rfl⟩
 · cases e
variable {a b:Expr}{f g:E}{pos:Pos}
theorem yq(ha:FE X a f)(hb:FE X b g):FE X (.BinOp a .Sub b pos) (e2 y6 f g):=zfv zuq ztr ha hb
theorem zmn{i:Int}(h:IB i):Builtin.Int.intBits i<=2^20:=by
 unfold IB at h;unfold Builtin.Int.intBits;have:i.natAbs.log2<4096:=by
   by_cases h0:i.natAbs=0
   · rw[h0];decide
   · exact(Nat.log2_lt h0).mpr h
 split<;>omega
theorem zrd:OpR X (binaryOp .Mult) (rI (fun i j=>CMul i j\/(IB i/\IB j)) fun i j=>.int (i*j)) :=
 L2.opI fun i j _ _ _ _ _ hc q=>mul_int q (by
   rcases hc with hc | ⟨h1,h2⟩
   · exact hc.ok
   · exact IntMulOk.of_bits (zmn h1) (zmn h2))
theorem kz(ha:FE X a f)(hb:FE X b g):FE X (.BinOp a .Mult b pos) (e2 ki f g):=zfv zrd (zqs fun i j z e=>by
 unfold zwy at e;split at e
 · rename_i h;cases e;refine⟨?_,rfl⟩;rcases h with h | h | h
   · exact .inl (.inl h)
   · exact .inl (.inr h)
   · exact .inr h
 · cases e) ha hb
theorem zbm(ha:FE X a f)(hb:FE X b g):FE X (.BinOp a .FloorDiv b pos) (e2 yb f g):=zfv zrf (zqs fun i j z e=>by
 unfold zy2 at e;split at e
 · rename_i h;cases e;exact⟨h,rfl⟩
 · cases e) ha hb
theorem jx(ha:FE X a f)(hb:FE X b g):FE X (.BinOp a .Mod b pos) (e2 q9 f g):=zfv zur (zqs fun i j z e=>by
 unfold zx8 at e;split at e
 · rename_i h;cases e;exact⟨h,rfl⟩
 · cases e) ha hb
theorem zvq(ha:FE X a f)(hb:FE X b g)(hm:behindInMarks .Lt b=false:=by exact zah _):FE X (.Compare a [.Lt] [b] pos) (e2 zbp f g):=zpq zre zag ha hb hm
theorem zvr(ha:FE X a f)(hb:FE X b g)(hm:behindInMarks .LtE b=false:=by exact zah _):FE X (.Compare a [.LtE] [b] pos) (e2 zc8 f g):=zpq zja zag ha hb hm
theorem zei(ha:FE X a f)(hb:FE X b g)(hm:behindInMarks .Lt b=false:=by exact zah _):FB X (.Compare a [.Lt] [b] pos) (bE (e2 zbp f g)):=za6 zre zag ha hb hm
theorem zvx(ha:FE X a f)(hb:FE X b g)(hm:behindInMarks .LtE b=false:=by exact zah _):FB X (.Compare a [.LtE] [b] pos) (bE (e2 zc8 f g)):=za6 zja zag ha hb hm
theorem zde(ha:FE X a f)(hb:FE X b g)(hm:behindInMarks .Gt b=false:=by exact zah _):FB X (.Compare a [.Gt] [b] pos) (bE (e2 zck f g)):=za6 zx5 zag ha hb hm
theorem zvy(ha:FE X a f)(hb:FE X b g)(hm:behindInMarks .GtE b=false:=by exact zah _):FB X (.Compare a [.GtE] [b] pos) (bE (e2 zpf f g)):=za6 zx6 zag ha hb hm
theorem zil{ρ H d v}(h:Rep K mg ρ H d v):zlo d=decide (v=.non):=by
 cases d with
 |non=>rw[show v=.non from h];rfl
 |bl b=>rw[show v=.bl b from h];rfl
 |int b=>rw[show v=.int b from h];rfl
 |str b=>rw[show v=.str b from h];rfl
 |fn x=>unfold Rep at h;obtain⟨p,rfl,_⟩:=h;rfl
 |ty b=>rw[show v=.ty b from h];rfl
 |tup x=>obtain⟨p,_,rfl,_⟩:=h.refT;rfl
 |lst x=>obtain⟨p,_,rfl,_⟩:=h.refL;rfl
 |obj x=>unfold Rep at h;obtain⟨p,rfl,_⟩:=h;rfl
 |lam x=>unfold Rep at h;obtain⟨p,rfl,_⟩:=h;rfl
 |clo x y=>unfold Rep at h;obtain⟨p,_,rfl,_⟩:=h;rfl
theorem zus:OpR X (compareOp .Is) (fun x y H Q=>∃i j,x=.bl i/\y=.bl j/\Q (.bl (i==j)) H):=by intro pins s σ H x y v u Q I rx ry h;obtain⟨i,j,rfl,rfl,q⟩:=h;cases rx;cases ry;exact is_bool ⟨.bl _,H,I,rfl,q⟩
theorem zk1:OpR X (compareOp .IsNot) (fun x y H Q=>∃i j,x=.bl i/\y=.bl j/\Q (.bl (i != j)) H):=by intro pins s σ H x y v u Q I rx ry h;obtain⟨i,j,rfl,rfl,q⟩:=h;cases rx;cases ry;exact isnot_bool ⟨.bl _,H,I,rfl,q⟩
theorem ztq:ze5 K mg (fun x y H Q=>(y=.non/\Q (.bl (decide (x=.non))) H)\/(∃i j,x=.bl i/\y=.bl j/\Q (.bl (i==j)) H)) (fun _=>zdb):=by
 intro ρ H S x y dx dy d Q hS rx ry e k;replace e:zdb dx dy=some d:=e;unfold zdb at e;split at e
 · cases e;rw[zil rx]at k;exact .inl ⟨ry,k _ H (Ext.refl _ _) hS rfl⟩
 · rename_i i j _;cases e;exact .inr ⟨_,_,rx,ry,k _ H (Ext.refl _ _) hS rfl⟩
 · cases e
theorem zkd:ze5 K mg (fun x y H Q=>(y=.non/\Q (.bl (!decide (x=.non))) H)\/(∃i j,x=.bl i/\y=.bl j/\Q (.bl (i != j)) H)) (fun _=>ji):=by
 intro ρ H S x y dx dy d Q hS rx ry e k;replace e:ji dx dy=some d:=e;unfold ji at e;split at e
 · cases e;rw[zil rx]at k;exact .inl ⟨ry,k _ H (Ext.refl _ _) hS rfl⟩
 · rename_i i j _;cases e;exact .inr ⟨_,_,rx,ry,k _ H (Ext.refl _ _) hS rfl⟩
 · cases e
theorem zbt(ha:FE X a f)(hb:FE X b g)(hm:behindInMarks .Is b=false:=by exact zah _):FB X (.Compare a [.Is] [b] pos) (bE (e2 zdb f g)):=za6 (op_isN.or zus) ztq ha hb hm
theorem za2(ha:FE X a f)(hb:FE X b g)(hm:behindInMarks .IsNot b=false:=by exact zah _):FB X (.Compare a [.IsNot] [b] pos) (bE (e2 ji f g)):=za6 (op_notN.or zk1) zkd ha hb hm
theorem zhp{ρ H ds vs i d}(r:RepL K mg ρ H ds vs)(h:atI ds i=some d):∃v,atI vs i=some v/\Rep K mg ρ H d v:=by unfold atI at h ⊢;rw[<-r.length];obtain⟨j,h1,h2⟩:=z8 h;rw[h1];exact r.get h2
theorem ztp:ze5 K mg (rIx K) qf:=by
 intro ρ H S x y dx dy d Q hS rx ry e k;unfold qf at e;split at e
 · rename_i ds i;obtain⟨p,vs,rfl,t,r⟩:=rx.refL;obtain⟨v,h1,h2⟩:=zhp r e;exact .inl ⟨p,vs,i,v,rfl,ry.refI,t.sq,h1,k _ H (Ext.refl _ _) hS h2⟩
 · rename_i ds i;obtain⟨p,vs,rfl,t,r⟩:=rx.refT;obtain⟨v,h1,h2⟩:=zhp r e;exact .inr (.inl ⟨p,vs,i,v,rfl,ry.refI,t.sq,h1,k _ H (Ext.refl _ _) hS h2⟩)
 · rename_i z i;split at e
   · rename_i hz;obtain⟨c,h1,e⟩:=zbs e;cases e;exact .inr (.inr ⟨z,i,c,rx.refS,ry.refI,hz,h1,k _ H (Ext.refl _ _) hS rfl⟩)
   · cases e
 · rename_i o i;split at e
   · rename_i ds hd;unfold Rep at rx;obtain⟨p,rfl,hp⟩:=rx;obtain⟨vs,h1,r⟩:=hS.ob o _ p hd hp;obtain⟨v,h3,h2⟩:=zhp r e;exact .inl ⟨p,vs,i,v,rfl,ry.refI,SqL.of h1,h3,k _ H (Ext.refl _ _) hS h2⟩
   · cases e
 · cases e
theorem zr(ha:FE X a f)(hb:FE X b g)(hs:zmr b:=by exact fun _ _=>rfl):FE X (.Subscript a b pos) (e2s qf f g):=jc (zx2 zvb ha hb hs) fun _ _ _ h=>t2 ztp h
end
def eqL(f:D->D->Option Bool):List D->List D->Option Bool
 |x::xs,y::ys=>(f x y).bind fun c=>(eqL f xs ys).map fun r=>c&&r
 | [],[]=>some true
 |_,_=>some false
def zef:D->Option V
 | .non=>some .non
 | .bl b=>some (.bl b)
 | .int i=>some (.int i)
 | .str x=>some (.str x)
 |_=>none
def eqF(a b:D):Option Bool:=match zef a,zef b with
 |some x,some y=>some (eqV x y)
 |_,_=>none
def zln:D->Bool
 | .tup _=>true
 | .lst _=>true
 |_=>false
def eqN:Nat->D->D->Option Bool
 |0,a,b=>eqF a b
 | n+1,a,b=>match a,b with
   | .tup xs,.tup ys=>eqL (eqN n) xs ys
   | .lst xs,.lst ys=>if xs.length=ys.length then eqL (eqN n) xs ys else some false
   | .tup _,.lst _=>some false
   | .lst _,.tup _=>some false
   | a,b=>if zln a=true then (if(zef b).isSome=true then some false else none)
     else if zln b=true then (if(zef a).isSome=true then some false else none)
     else eqF a b
theorem zb9{a b:D}{k:Bool}(h:eqF a b=some k):∃x y,zef a=some x/\zef b=some y/\k=eqV x y:=by
 unfold eqF at h;split at h
 · rename_i x y e1 e2;exact⟨x,y,e1,e2,(z1s h).symm⟩
 · cases h
section
variable {X:Cx}{pins:zAO}{σ:L2.St}{H:Hp}{s:Shared}{ρ:List Addr}{mg:zMg}
theorem xg{K}{d:D}{x v:V}(e:zef d=some x)(r:Rep K mg ρ H d v):v=x/\zg5 x=true:=by
 cases d with
 |non=>cases e;exact⟨r,rfl⟩
 |bl b=>cases e;exact⟨r,rfl⟩
 |int i=>cases e;exact⟨r,rfl⟩
 |str i=>cases e;exact⟨r,rfl⟩
 |_=>cases e
theorem zl4{f:D->D->Option Bool}:∀{xs ys:List D}{k:Bool},eqL f xs ys=some k->xs.length≠ys.length->k=false
 | [],[],_,_,h=>absurd rfl h
 | [],_::_,_,h,_=>by cases h;rfl
 |_::_,[],_,h,_=>by cases h;rfl
 | x::xs,y::ys,k,h,n=>by obtain⟨c,_,h⟩:=z8 h;obtain⟨r,h2,h⟩:=zbs h;have:=zl4 h2 (fun z=>n (by simp[z]));subst this h;simp
theorem zps{f:D->D->Option Bool}:∀{xs ys:List D}{k:Bool},eqL f xs ys=some k->∀(j:Nat) (x y:D),xs[j]? = some x->ys[j]? = some y->∃c,f x y=some c
 | x::xs,y::ys,k,h,0,_,_,e1,e2=>by obtain⟨c,h1,h⟩:=z8 h;simp at e1 e2;subst e1 e2;exact⟨c,h1⟩
 | x::xs,y::ys,k,h,j+1,_,_,e1,e2=>by obtain⟨c,h1,h⟩:=z8 h;obtain⟨r,h2,h⟩:=zbs h;exact zps h2 j _ _ (by simpa using e1) (by simpa using e2)
 | [],_,_,_,_,_,_,e1,_=>by simp at e1
 |_::_,[],_,_,_,_,_,_,e2=>by simp at e2
def zjw(f:D->D->Option Bool)(xs ys:List D)(j:Nat):Bool:=match xs[j]?,ys[j]? with
 |some x,some y=>(f x y).getD false
 |_,_=>false
theorem zg8{f:D->D->Option Bool}:∀{xs ys:List D}{k:Bool},eqL f xs ys=some k->xs.length=ys.length->k=(List.range xs.length).all (zjw f xs ys)
 | [],[],_,h,_=>by cases h;rfl
 | x::xs,y::ys,k,h,e=>by
   obtain⟨c,h1,h⟩:=z8 h;obtain⟨r,h2,h⟩:=zbs h;subst h;have ih:=zg8 h2 (by simpa using e);rw[List.length_cons,List.range_succ_eq_map,List.all_cons,List.all_map];have e0:zjw f (x::xs) (y::ys) 0=c:=by simp[zjw,h1]
   have e1:((zjw f (x::xs) (y::ys))∘Nat.succ)=zjw f xs ys:=by funext j;simp[zjw]
   rw[e0,e1,<-ih]
 | [],_::_,_,_,e=>by simp at e
 |_::_,[],_,_,e=>by simp at e
theorem zob{f:D->D->Option Bool}{xs ys:List D}{k:Bool}(h:eqL f xs ys=some k):k=((List.range (min xs.length ys.length)).all (zjw f xs ys)&&xs.length==ys.length):=by
 by_cases e:xs.length=ys.length
 · rw[zg8 h e,e];simp
 · rw[zl4 h e];have:(xs.length==ys.length)=false:=by simpa using e
   rw[this];simp
theorem zsg:∀(n:Nat) {d1 d2:D}{v:V}{k:Bool},Inv X pins σ H s->eqN n d1 d2=some k->Rep X.K mg ρ H d1 v->Rep X.K mg ρ H d2 v->k=true:=by
 intro n
 induction n with
 | zero=>
   intro d1 d2 v k I h r1 r2;obtain⟨x,y,e1,e2,rfl⟩:=zb9 h;obtain⟨rfl,f1⟩:=xg e1 r1;obtain⟨rfl,f2⟩:=xg e2 r2;cases v<;>first | (cases f1;done) | (simp[eqV];done)
 | succ n ih=>
   intro d1 d2 v k I h r1 r2;have lst:∀{xs ys:List D}{vs:List V}{k:Bool},eqL (eqN n) xs ys=some k->RepL X.K mg ρ H xs vs->RepL X.K mg ρ H ys vs->k=true:=by
     intro xs
     induction xs with
     | nil=>
       intro ys vs k h q1 q2;have l1:=q1.length;have l2:=q2.length;cases ys with
       |nil=>cases h;rfl
       |cons _ _=>rw[<-l1]at l2;simp at l2
     | cons x xs ihx=>
       intro ys vs k h q1 q2;cases ys with
       | nil=>
         have l1:=q1.length;have l2:=q2.length;rw[<-l2]at l1;simp at l1
       | cons y ys=>
         obtain⟨c,h1,h⟩:=z8 h;obtain⟨r,h2,h⟩:=zbs h;unfold RepL at q1 q2;obtain⟨v1,r1,rfl,a1,b1⟩:=q1;obtain⟨v2,r2,e,a2,b2⟩:=q2;cases e;rw[<-h,ih I h1 a1 a2,ihx h2 b1 b2];rfl
   unfold eqN at h;split at h
   · rename_i xs ys;obtain⟨p,vs,rfl,t1,q1⟩:=r1.refT;obtain⟨p',vs',e,t2,q2⟩:=r2.refT;cases e;have:=I.tuple_inj t1.sq t2.sq;subst this;exact lst h q1 q2
   · rename_i xs ys;obtain⟨p,vs,rfl,t1,q1⟩:=r1.refL;obtain⟨p',vs',e,t2,q2⟩:=r2.refL;cases e;have:=I.list_inj t1.sq t2.sq;subst this;rw[z1t (by rw[q1.length,q2.length])]at h;exact lst h q1 q2
   · rename_i xs ys;obtain⟨p,vs,rfl,t1,q1⟩:=r1.refT;obtain⟨p',vs',e,t2,q2⟩:=r2.refL;cases e;obtain⟨_,_,⟨o,e1,c1,_⟩,_⟩:=I.tuple t1.sq;obtain⟨_,_,⟨o',_,e2,c2,_⟩,_⟩:=I.list t2.sq;rw[e1]at e2;cases e2;rw[c1]at c2;exact absurd (Value.type.inj c2) (by decide)
   · rename_i xs ys;obtain⟨p,vs,rfl,t1,q1⟩:=r1.refL;obtain⟨p',vs',e,t2,q2⟩:=r2.refT;cases e;obtain⟨_,_,⟨o,e1,c1,_⟩,_⟩:=I.tuple t2.sq;obtain⟨_,_,⟨o',_,e2,c2,_⟩,_⟩:=I.list t1.sq;rw[e1]at e2;cases e2;rw[c1]at c2;exact absurd (Value.type.inj c2) (by decide)
   · split at h
     · rename_i hs;split at h
       · rename_i hb;obtain⟨y,ey⟩:=z2m.mp hb;obtain⟨rfl,f2⟩:=xg ey r2;cases d1 with
         |tup _=>obtain⟨p,_,rfl,_⟩:=r1.refT;cases f2
         |lst _=>obtain⟨p,_,rfl,_⟩:=r1.refL;cases f2
         |_=>cases hs
       · cases h
     · split at h
       · rename_i hs;split at h
         · rename_i hb;obtain⟨y,ey⟩:=z2m.mp hb;obtain⟨rfl,f2⟩:=xg ey r1;cases d2 with
           |tup _=>obtain⟨p,_,rfl,_⟩:=r2.refT;cases f2
           |lst _=>obtain⟨p,_,rfl,_⟩:=r2.refL;cases f2
           |_=>cases hs
         · cases h
       · obtain⟨x,y,e1,e2,rfl⟩:=zb9 h;obtain⟨rfl,f1⟩:=xg e1 r1;obtain⟨rfl,f2⟩:=xg e2 r2;cases v<;>first | (cases f1;done) | (simp[eqV];done)
theorem zkn{A:Around}{x y:V}{u w:Value}(ru:RelV x u)(rw':RelV y w)(fx:zg5 x=true)(fy:zg5 y=true):SeqAt.RcAt A s u w (eqV x y):=by
 cases x with
 | non=>
   cases ru;cases y with
   |non=>cases rw';exact SeqAt.RcAt.none_none
   |bl b=>cases rw';exact SeqAt.RcAt.none_bool b
   |int b=>obtain⟨t,rfl⟩:=rw';exact SeqAt.RcAt.none_int b t
   |str b=>obtain⟨t,rfl⟩:=rw';exact SeqAt.RcAt.none_str b t
   |_=>cases fy
 | bl a=>
   cases ru;cases y with
   |non=>cases rw';exact SeqAt.RcAt.bool_none a
   |bl b=>cases rw';exact SeqAt.RcAt.bool_bool a b
   |int b=>obtain⟨t,rfl⟩:=rw';exact SeqAt.RcAt.bool_int a b t
   |str b=>obtain⟨t,rfl⟩:=rw';exact SeqAt.RcAt.bool_str a b t
   |_=>cases fy
 | int a=>
   obtain⟨t',rfl⟩:=ru;cases y with
   |non=>cases rw';exact SeqAt.RcAt.int_none a t'
   |bl b=>cases rw';exact SeqAt.RcAt.int_bool a t' b
   |int b=>obtain⟨t,rfl⟩:=rw';exact SeqAt.RcAt.int_int a t' b t
   |str b=>obtain⟨t,rfl⟩:=rw';exact SeqAt.RcAt.int_str a t' b t
   |_=>cases fy
 | str a=>
   obtain⟨t',rfl⟩:=ru;cases y with
   |non=>cases rw';exact SeqAt.RcAt.str_none a t'
   |bl b=>cases rw';exact SeqAt.RcAt.str_bool a t' b
   |int b=>obtain⟨t,rfl⟩:=rw';exact SeqAt.RcAt.str_int a t' b t
   |str b=>obtain⟨t,rfl⟩:=rw';exact SeqAt.RcAt.str_str a t' b t
   |_=>cases fy
 |_=>cases fx
theorem zfd{A:Around}{x y:V}{u w:Value}(ru:RelV x u)(rw':RelV y w)(fx:zg5 x=true)(fy:zg5 y=true):SeqAt.RcNeAt A s u w (!eqV x y):=by
 cases x with
 | non=>
   cases ru;cases y with
   |non=>cases rw';exact SeqAt.RcNeAt.none_none
   |bl b=>cases rw';exact SeqAt.RcNeAt.none_bool b
   |int b=>obtain⟨t,rfl⟩:=rw';exact SeqAt.RcNeAt.none_int b t
   |str b=>obtain⟨t,rfl⟩:=rw';exact SeqAt.RcNeAt.none_str b t
   |_=>cases fy
 | bl a=>
   cases ru;cases y with
   |non=>cases rw';exact SeqAt.RcNeAt.bool_none a
   |bl b=>cases rw';exact SeqAt.RcNeAt.bool_bool a b
   |int b=>obtain⟨t,rfl⟩:=rw';exact SeqAt.RcNeAt.bool_int a b t
   |str b=>obtain⟨t,rfl⟩:=rw';exact SeqAt.RcNeAt.bool_str a b t
   |_=>cases fy
 | int a=>
   obtain⟨t',rfl⟩:=ru;cases y with
   |non=>cases rw';exact SeqAt.RcNeAt.int_none a t'
   |bl b=>cases rw';exact SeqAt.RcNeAt.int_bool a t' b
   |int b=>obtain⟨t,rfl⟩:=rw';exact SeqAt.RcNeAt.int_int a t' b t
   |str b=>obtain⟨t,rfl⟩:=rw';exact SeqAt.RcNeAt.int_str a t' b t
   |_=>cases fy
 | str a=>
   obtain⟨t',rfl⟩:=ru;cases y with
   |non=>cases rw';exact SeqAt.RcNeAt.str_none a t'
   |bl b=>cases rw';exact SeqAt.RcNeAt.str_bool a t' b
   |int b=>obtain⟨t,rfl⟩:=rw';exact SeqAt.RcNeAt.str_int a t' b t
   |str b=>obtain⟨t,rfl⟩:=rw';exact SeqAt.RcNeAt.str_str a t' b t
   |_=>cases fy
 |_=>cases fx
theorem zii{A:Around}{n:Nat}{xs ys:List D}{vs us:List V}{its its2:List Value}(hq:∀{d1 d2:D}{v w:V}{a b:Value}{k:Bool},eqN n d1 d2=some k->Rep X.K mg ρ H d1 v->Rep X.K mg ρ H d2 w->RelV v a->RelV w b->SeqAt.EqAt A s a b k){k:Bool}(h:eqL (eqN n) xs ys=some k)
   (r1:RepL X.K mg ρ H xs vs) (r2:RepL X.K mg ρ H ys us) (q1:Vals vs its) (q2:Vals us its2) :
   ∀j (h1:j<its.toArray.size) (h2:j<its2.toArray.size),SeqAt.EqAt A s its.toArray[j] its2.toArray[j] (zjw (eqN n) xs ys j):=by
 intro j h1 h2;have l1:=r1.length;have l2:=r2.length;have l3:=q1.length;have l4:=q2.length;rw[z1h]at h1 h2;have e1:xs[j]? = some xs[j]:=z08 (by omega);have e2:ys[j]? = some ys[j]:=z08 (by omega);obtain⟨v,ev,rv⟩:=r1.get e1;obtain⟨w,ew,rw'⟩:=r2.get e2;obtain⟨a,ea,ra⟩:=q1.get ev;obtain⟨b,eb,rb⟩:=q2.get ew;obtain⟨c,hc⟩:=zps h j _ _ e1 e2;have z1:its.toArray[j]=a:=by rw[z08 h1]at ea;simpa using ea
 have z2:its2.toArray[j]=b:=by rw[z08 h2]at eb;simpa using eb
 have z3:zjw (eqN n) xs ys j=c:=by simp[zjw,e1,e2,hc]
 rw[z1,z2,z3];exact hq hc rv rw' ra rb
theorem zvz:∀(n:Nat) {A:Around}{d1 d2:D}{v w:V}{a b:Value}{k:Bool},Inv X pins σ H s->A.units+n<cLine->eqN n d1 d2=some k->Rep X.K mg ρ H d1 v->Rep X.K mg ρ H d2 w->RelV v a->RelV w b ->
   SeqAt.RcAt A s a b k/\SeqAt.RcNeAt A s a b (!k)/\SeqAt.EqAt A s a b k:=by
 intro n
 induction n with
 | zero=>
   intro A d1 d2 v w a b k I hu h r1 r2 ra rb;obtain⟨x,y,e1,e2,rfl⟩:=zb9 h;obtain⟨rfl,f1⟩:=xg e1 r1;obtain⟨rfl,f2⟩:=xg e2 r2;exact⟨zkn ra rb f1 f2,zfd ra rb f1 f2,zpt ra rb f1 f2⟩
 | succ n ih=>
   intro A d1 d2 v w a b k I hu h r1 r2 ra rb;have hs:∀{u:V},Rep X.K mg ρ H d1 u->Rep X.K mg ρ H d2 u->k=true:=fun a b=>zsg (n+1) I h a b;have hin:A.in1.units+n<cLine:=by show A.units+1+n<cLine;omega
   have hu0:A.units<cLine:=by omega
   have same:∀{p q:Addr},v=.ref p->w=.ref q->SeqAt.RcAt A s (.ref p) (.ref q) k->SeqAt.EqAt A s a b k:=by
     intro p q e1 e2 rc;subst e1 e2;cases ra;cases rb;by_cases hpq:p=q
     · subst hpq;rw[hs r1 r2];exact SeqAt.EqAt.same _
     · exact SeqAt.EqAt.of_refs hpq rc
   unfold eqN at h;split at h
   · rename_i xs ys;obtain⟨p,vs,rfl,t1,q1⟩:=r1.refT;obtain⟨p',us,rfl,t2,q2⟩:=r2.refT;cases ra;cases rb;obtain⟨its,z1,pt1,_⟩:=I.tuple t1.sq;obtain⟨its2,z2,pt2,_⟩:=I.tuple t2.sq;have hit:=zii (A:=A.in1) (s:=s) (fun e a1 a2 a3 a4=>(ih I hin e a1 a2 a3 a4).2.2) h q1 q2 z1 z2;have l1:=q1.length;have l2:=q2.length;have l3:=z1.length;have l4:=z2.length;have ek:k=((List.range (min its.toArray.size its2.toArray.size)).all (zjw (eqN n) xs ys)&&its.toArray.size==its2.toArray.size):=by rw[z1h,z1h,<-l3,<-l4,<-l1,<-l2];exact zob h
     have rc:=SeqAt.RcAt.tuples (A:=A) (s:=s) pt1 pt2 hu0 hit;have rn:=SeqAt.RcNeAt.tuples (A:=A) (s:=s) pt1 pt2 hu0 hit;rw[<-ek]at rc;refine⟨rc,?_,same rfl rfl rc⟩;rw[ek];exact rn
   · rename_i xs ys;obtain⟨p,vs,rfl,t1,q1⟩:=r1.refL;obtain⟨p',us,rfl,t2,q2⟩:=r2.refL;cases ra;cases rb;obtain⟨its,z1,pt1,_⟩:=I.list t1.sq;obtain⟨its2,z2,pt2,_⟩:=I.list t2.sq;have l1:=q1.length;have l2:=q2.length;have l3:=z1.length;have l4:=z2.length;split at h
     · rename_i hl;have hit:=zii (A:=A.in1) (s:=s) (fun e a1 a2 a3 a4=>(ih I hin e a1 a2 a3 a4).2.2) h q1 q2 z1 z2;have hsz:its.toArray.size=its2.toArray.size:=by rw[z1h,z1h];omega
       have ek:k=(List.range its.toArray.size).all (zjw (eqN n) xs ys):=by rw[z1h,<-l3,<-l1];exact zg8 h hl
       have rc:=SeqAt.RcAt.lists (A:=A) (s:=s) pt1.isList pt2.isList hsz hu0 hit;have rn:=SeqAt.RcNeAt.lists (A:=A) (s:=s) pt1.isList pt2.isList hsz hu0 hit;rw[<-ek]at rc;refine⟨rc,?_,same rfl rfl rc⟩;rw[ek];exact rn
     · rename_i hl;cases h;have hsz:(its.toArray.size != its2.toArray.size)=true:=by rw[z1h,z1h];simp;omega
       have rc:=SeqAt.RcAt.lists_lengths (A:=A) (s:=s) pt1.isList pt2.isList hsz hu0;have rn:=SeqAt.RcNeAt.lists_lengths (A:=A) (s:=s) pt1.isList pt2.isList hsz hu0;exact⟨rc,rn,same rfl rfl rc⟩
   · rename_i xs ys;cases h;obtain⟨p,vs,rfl,t1,q1⟩:=r1.refT;obtain⟨p',us,rfl,t2,q2⟩:=r2.refL;cases ra;cases rb;obtain⟨its,z1,pt1,_⟩:=I.tuple t1.sq;obtain⟨its2,z2,pt2,_⟩:=I.list t2.sq;exact⟨SeqAt.RcAt.tuple_list pt1 pt2.isList hu0,SeqAt.RcNeAt.tuple_list pt1 pt2.isList hu0,SeqAt.EqAt.tuple_list pt1 pt2.isList hu0⟩
   · rename_i xs ys;cases h;obtain⟨p,vs,rfl,t1,q1⟩:=r1.refL;obtain⟨p',us,rfl,t2,q2⟩:=r2.refT;cases ra;cases rb;obtain⟨its,z1,pt1,_⟩:=I.list t1.sq;obtain⟨its2,z2,pt2,_⟩:=I.tuple t2.sq;exact⟨SeqAt.RcAt.list_tuple pt1.isList pt2 hu0,SeqAt.RcNeAt.list_tuple pt1.isList pt2 hu0,SeqAt.EqAt.list_tuple pt1.isList pt2 hu0⟩
   · split at h
     · rename_i hsq;split at h
       · rename_i hb;cases h;obtain⟨y,ey⟩:=z2m.mp hb;obtain⟨rfl,f2⟩:=xg ey r2;cases d1 with
         | tup _=>
           obtain⟨p,vs,rfl,t1,q1⟩:=r1.refT;cases ra;obtain⟨its,z1,pt,_⟩:=I.tuple t1.sq;cases w with
           |non=>cases rb;exact⟨SeqAt.RcAt.tuple_none pt hu0,SeqAt.RcNeAt.tuple_none pt hu0,SeqAt.EqAt.tuple_none pt hu0⟩
           |bl c=>cases rb;exact⟨SeqAt.RcAt.tuple_bool c pt hu0,SeqAt.RcNeAt.tuple_bool c pt hu0,SeqAt.EqAt.tuple_bool c pt hu0⟩
           |int c=>obtain⟨t,rfl⟩:=rb;exact⟨SeqAt.RcAt.tuple_int c t pt hu0,SeqAt.RcNeAt.tuple_int c t pt hu0,SeqAt.EqAt.tuple_int c t pt hu0⟩
           |str c=>obtain⟨t,rfl⟩:=rb;exact⟨SeqAt.RcAt.tuple_str c t pt hu0,SeqAt.RcNeAt.tuple_str c t pt hu0,SeqAt.EqAt.tuple_str c t pt hu0⟩
           |_=>cases f2
         | lst _=>
           obtain⟨p,vs,rfl,t1,q1⟩:=r1.refL;cases ra;obtain⟨its,z1,pl,_⟩:=I.list t1.sq;have pt:=pl.isList;cases w with
           |non=>cases rb;exact⟨SeqAt.RcAt.list_none pt hu0,SeqAt.RcNeAt.list_none pt hu0,SeqAt.EqAt.list_none pt hu0⟩
           |bl c=>cases rb;exact⟨SeqAt.RcAt.list_bool c pt hu0,SeqAt.RcNeAt.list_bool c pt hu0,SeqAt.EqAt.list_bool c pt hu0⟩
           |int c=>obtain⟨t,rfl⟩:=rb;exact⟨SeqAt.RcAt.list_int c t pt hu0,SeqAt.RcNeAt.list_int c t pt hu0,SeqAt.EqAt.list_int c t pt hu0⟩
           |str c=>obtain⟨t,rfl⟩:=rb;exact⟨SeqAt.RcAt.list_str c t pt hu0,SeqAt.RcNeAt.list_str c t pt hu0,SeqAt.EqAt.list_str c t pt hu0⟩
           |_=>cases f2
         |_=>cases hsq
       · cases h
     · split at h
       · rename_i hsq;split at h
         · rename_i hb;cases h;obtain⟨y,ey⟩:=z2m.mp hb;obtain⟨rfl,f2⟩:=xg ey r1;cases d2 with
           | tup _=>
             obtain⟨p,vs,rfl,t1,q1⟩:=r2.refT;cases rb;obtain⟨its,z1,pt,_⟩:=I.tuple t1.sq;cases v with
             |non=>cases ra;exact⟨SeqAt.RcAt.none_tuple pt hu0,SeqAt.RcNeAt.none_tuple pt hu0,SeqAt.EqAt.none_tuple pt hu0⟩
             |bl c=>cases ra;exact⟨SeqAt.RcAt.bool_tuple c pt hu0,SeqAt.RcNeAt.bool_tuple c pt hu0,SeqAt.EqAt.bool_tuple c pt hu0⟩
             |int c=>obtain⟨t,rfl⟩:=ra;exact⟨SeqAt.RcAt.int_tuple c t pt hu0,SeqAt.RcNeAt.int_tuple c t pt hu0,SeqAt.EqAt.int_tuple c t pt hu0⟩
             |str c=>obtain⟨t,rfl⟩:=ra;exact⟨SeqAt.RcAt.str_tuple c t pt hu0,SeqAt.RcNeAt.str_tuple c t pt hu0,SeqAt.EqAt.str_tuple c t pt hu0⟩
             |_=>cases f2
           | lst _=>
             obtain⟨p,vs,rfl,t1,q1⟩:=r2.refL;cases rb;obtain⟨its,z1,pl,_⟩:=I.list t1.sq;have pt:=pl.isList;cases v with
             |non=>cases ra;exact⟨SeqAt.RcAt.none_list pt hu0,SeqAt.RcNeAt.none_list pt hu0,SeqAt.EqAt.none_list pt hu0⟩
             |bl c=>cases ra;exact⟨SeqAt.RcAt.bool_list c pt hu0,SeqAt.RcNeAt.bool_list c pt hu0,SeqAt.EqAt.bool_list c pt hu0⟩
             |int c=>obtain⟨t,rfl⟩:=ra;exact⟨SeqAt.RcAt.int_list c t pt hu0,SeqAt.RcNeAt.int_list c t pt hu0,SeqAt.EqAt.int_list c t pt hu0⟩
             |str c=>obtain⟨t,rfl⟩:=ra;exact⟨SeqAt.RcAt.str_list c t pt hu0,SeqAt.RcNeAt.str_list c t pt hu0,SeqAt.EqAt.str_list c t pt hu0⟩
             |_=>cases f2
           |_=>cases hsq
         · cases h
       · obtain⟨x,y,e1,e2,rfl⟩:=zb9 h;obtain⟨rfl,f1⟩:=xg e1 r1;obtain⟨rfl,f2⟩:=xg e2 r2;exact⟨zkn ra rb f1 f2,zfd ra rb f1 f2,zpt ra rb f1 f2⟩
end
def zdc(a b:D):Option D:=(eqN 150 a b).map D.bl
def zno(a b:D):Option D:=(eqN 150 a b).map fun k=>D.bl !k
section
variable {X:Cx}{a b:Expr}{f g:E}{pos:Pos}
def ztx(K:zFr)(mg:zMg)(neg:Bool):R2:=fun x y H Q=>∃(ρ:List Addr) (d1 d2:D) (k:Bool),Rep K mg ρ H d1 x/\Rep K mg ρ H d2 y/\eqN 150 d1 d2=some k/\Q (.bl (if neg then !k else k)) H
theorem zut(hu:X.A.units+150<cLine):OpR X (compareOp .Eq) (ztx X.K X.mg false):=by intro pins s σ H x y v u Q I rx ry h;obtain⟨ρ,d1,d2,k,h1,h2,h3,q⟩:=h;exact(zvz 150 I hu h3 h1 h2 rx ry).1 _ _ _ _ ⟨.bl k,H,I,rfl,q⟩
theorem zpe(hu:X.A.units+150<cLine):OpR X (compareOp .NotEq) (ztx X.K X.mg true):=by intro pins s σ H x y v u Q I rx ry h;obtain⟨ρ,d1,d2,k,h1,h2,h3,q⟩:=h;exact(zvz 150 I hu h3 h1 h2 rx ry).2.1 _ _ _ _ ⟨.bl (!k),H,I,rfl,q⟩
theorem zqp{K mg}:ze5 K mg (ztx K mg false) (fun _=>zdc):=by intro ρ H S x y dx dy d Q hS rx ry e k;obtain⟨c,e1,e⟩:=zbs e;subst e;exact⟨ρ,dx,dy,c,rx,ry,e1,k _ H (Ext.refl _ _) hS rfl⟩
theorem zkb{K mg}:ze5 K mg (ztx K mg true) (fun _=>zno):=by intro ρ H S x y dx dy d Q hS rx ry e k;obtain⟨c,e1,e⟩:=zbs e;subst e;exact⟨ρ,dx,dy,c,rx,ry,e1,k _ H (Ext.refl _ _) hS rfl⟩
theorem zej{k:Nat}(hr:Room k X.A)(ha:FE X a f)(hb:FE X b g)(hm:behindInMarks .Eq b=false:=by exact zah _):FB X (.Compare a [.Eq] [b] pos) (bE (e2 zdc f g)):=za6 (zut (by have:=hr.un;omega)) zqp ha hb hm
theorem zyx{k:Nat}(hr:Room k X.A)(ha:FE X a f)(hb:FE X b g)(hm:behindInMarks .NotEq b=false:=by exact zah _):FB X (.Compare a [.NotEq] [b] pos) (bE (e2 zno f g)):=za6 (zpe (by have:=hr.un;omega)) zkb ha hb hm
end
def zfo(S:Sto):List D->Option D
 | [.lst ds]=>some (.int ds.length)
 | [.tup ds]=>some (.int ds.length)
 | [.str z]=>if z.length<=sizeLine then some (.int z.length)else none
 | [.obj a]=>(match S[a]? with
   |some (.lst ds)=>some (.int ds.length)
   |_=>none)
 |_=>none
def zws(_:Sto):List D->Option D
 | [.int i]=>some (.int (if i<0 then -i else i))
 |_=>none
def znq(_:Sto):List D->Option D
 | [.int i,.int j]=>some (.int (if j>i then j else i))
 |_=>none
section
variable {X:Cx}{K:zFr}{mg:zMg}
theorem one{ρ H d xs}(r:RepL K mg ρ H [d] xs):∃v,xs=[v]/\Rep K mg ρ H d v:=by unfold RepL at r;obtain⟨v,t,rfl,h1,h2⟩:=r;unfold RepL at h2;subst h2;exact⟨v,rfl,h1⟩
theorem two{ρ H d e xs}(r:RepL K mg ρ H [d,e] xs):∃v w,xs=[v,w]/\Rep K mg ρ H d v/\Rep K mg ρ H e w:=by unfold RepL at r;obtain⟨v,t,rfl,h1,h2⟩:=r;obtain⟨w,rfl,h3⟩:=one h2;exact⟨v,w,rfl,h1,h3⟩
theorem zqo:zs6 K mg (fun xs H Q=>(∃p ys,xs=[.ref p]/\(SqL K H p ys\/SqT K H p ys)/\Q (.int ys.length) H)\/(∃z,xs=[.str z]/\z.length<=sizeLine/\Q (.int z.length) H)) zfo:=by
 intro ρ H S xs ds d Q hS r e k;unfold zfo at e;split at e
 · cases e;replace r:=one r;obtain⟨v,rfl,r⟩:=r;obtain⟨p,vs,rfl,t,r⟩:=r.refL;exact .inl ⟨p,vs,rfl,.inl t.sq,by rw[<-r.length];exact k _ H (Ext.refl _ _) hS rfl⟩
 · cases e;replace r:=one r;obtain⟨v,rfl,r⟩:=r;obtain⟨p,vs,rfl,t,r⟩:=r.refT;exact .inl ⟨p,vs,rfl,.inr t.sq,by rw[<-r.length];exact k _ H (Ext.refl _ _) hS rfl⟩
 · split at e
   · rename_i hz;cases e;replace r:=one r;obtain⟨v,rfl,r⟩:=r;rw[r.refS];exact .inr ⟨_,rfl,hz,k _ H (Ext.refl _ _) hS rfl⟩
   · cases e
 · split at e
   · rename_i ds hd;cases e;replace r:=one r;obtain⟨v,rfl,r⟩:=r;unfold Rep at r;obtain⟨p,rfl,hp⟩:=r;obtain⟨vs,h1,r⟩:=hS.ob _ _ p hd hp;exact .inl ⟨p,vs,rfl,.inl (SqL.of h1),by rw[<-r.length];exact k _ H (Ext.refl _ _) hS rfl⟩
   · cases e
 · cases e
variable {e:Expr}{es:List Expr}{p pos:Pos}{g:As}
theorem zcz(hm:X.mg "len"=none)(ha:FA X [e] g)(hg:Gl X "len":=by rfl)(he:starEach [e] X.env=(false,eval e X.env)::starEach [] X.env:=by exact q0 rfl)(hpl:(backTo pos (starEach [] X.env)).any (·.1)=false:=by exact ju rfl):FE X (.Call (.Name "len" p) [e] [] pos) (eA zfo g) :=
 ziq (call_len_seq.or zf5) zqo hm PySem.boot_len ha hg (by decide) (by decide) he hpl
theorem zqr:zs6 K mg (fun xs H Q=>∃i,xs=[.int i]/\Q (.int (if i<0 then -i else i)) H) zws:=by
 intro ρ H S xs ds d Q hS r e k;unfold zws at e;split at e
 · cases e;replace r:=one r;obtain⟨v,rfl,r⟩:=r;rw[r.refI];exact⟨_,rfl,k _ H (Ext.refl _ _) hS rfl⟩
 · cases e
theorem zvu(hm:X.mg "abs"=none)(ha:FA X [e] g)(hg:Gl X "abs":=by rfl)(he:starEach [e] X.env=(false,eval e X.env)::starEach [] X.env:=by exact q0 rfl)(hpl:(backTo pos (starEach [] X.env)).any (·.1)=false:=by exact ju rfl):FE X (.Call (.Name "abs" p) [e] [] pos) (eA zws g) :=
 ziq zok zqr hm (by with_unfolding_all rfl) ha hg (by decide) (by decide) he hpl
theorem zqn:zs6 K mg (fun xs H Q=>∃i j,xs=[.int i,.int j]/\Q (.int (if j>i then j else i)) H) znq:=by
 intro ρ H S xs ds d Q hS r e k;unfold znq at e;split at e
 · cases e;replace r:=two r;obtain⟨v,w,rfl,r1,r2⟩:=r;rw[r1.refI,r2.refI];exact⟨_,_,rfl,k _ H (Ext.refl _ _) hS rfl⟩
 · cases e
theorem zpo(hm:X.mg "max"=none)(ha:FA X (e::es) g)(hc:X.calm=true:=by rfl)(hg:Gl X "max":=by rfl)(he:starEach (e::es) X.env=(false,eval e X.env)::starEach es X.env:=by exact q0 rfl)(hpl:(backTo pos (starEach es X.env)).any (·.1)=false:=by exact ju rfl):FE X (.Call (.Name "max" p) (e::es) [] pos) (eA znq g) :=
 ziq (zmd hc) zqn hm (by with_unfolding_all rfl) ha hg (by decide) (by decide) he hpl
abbrev Pt:=Ev->Sto->Option (Option Int×Sto)
def z0o:D->Option D
 | .lst ds=>some (.lst ds.reverse)
 |_=>none
def zbx:List D->Option (List Str)
 | []=>some []
 | .str x::r=>(zbx r).map fun l=>x::l
 |_=>none
def znv(sep:Str)(_:Sto):List D->Option D
 | [.lst ds]=>(zbx ds).bind fun ys=>if(ys.map (·.length)).sum+ys.length*sep.length<=16777216 then some (.str (Txt.join sep ys))else none
 |_=>none
theorem zhz{ρ H}:∀{ds:List D}{ys:List Str}{vs:List V}{its:List Value},zbx ds=some ys->RepL K mg ρ H ds vs->Vals vs its->StrsAre its ys
 | [],_,_,_,h,r,q=>by cases h;unfold RepL at r;subst r;cases q;exact .nil
 | d::ds,ys,vs,its,h,r,q=>by
   unfold RepL at r;obtain⟨v,t,rfl,r1,r2⟩:=r;cases q with
   | cons qa qb=>
     unfold zbx at h;split at h
     · rename_i heq;cases heq
     · rename_i x r' heq;cases heq;obtain⟨l,h1,h⟩:=zbs h;subst h;have r1:v=.str x:=r1;subst r1;obtain⟨tk,rfl⟩:=qa;exact .cons x tk (zhz h1 r2 qb)
     · cases h
theorem zrl{sep:Str}:MtR X "str.join" (fun x xs H Q=>x=.str sep/\∃p ds ys ρ,xs=[.ref p]/\Rep X.K X.mg ρ H (.lst ds) (.ref p)/\zbx ds=some ys/\(ys.map (·.length)).sum+ys.length*sep.length<=16777216/\Q (.str (Txt.join sep ys)) H):=by intro pins s σ H x xs v us Q I rx rs h;obtain⟨rfl,p,ds,ys,ρ,rfl,rp,hs,hl,q⟩:=h;obtain⟨u,rfl,ru⟩:=zjz rs;cases ru;obtain⟨tk,rfl⟩:=rx;obtain⟨p',vs,e,t,r⟩:=rp.refL;cases e;obtain⟨its,rv,pl,_⟩:=I.list t.sq;exact join_list pl.isList (by simpa using zhz hs r rv) hl fun t' k=>⟨.str _,H,I.tok k,⟨t',rfl⟩,q⟩
theorem znu{sep:Str}{S:Sto}{x:List D}{d:D}(h:znv sep S x=some d):∃ds ys,x=[.lst ds]/\zbx ds=some ys/\(ys.map (·.length)).sum+ys.length*sep.length<=16777216/\d=.str (Txt.join sep ys):=by
 unfold znv at h;split at h
 · obtain⟨ys,h1,h⟩:=z8 h;split at h
   · rename_i hl;cases h;exact⟨_,ys,rfl,h1,hl,rfl⟩
   · cases h
 · cases h
def zsi(sep:Str)(g:As):E:=eA (znv sep) g
theorem zr9{sep:Str}{j:Nat}{p1 apos:Pos}(ha:FA X (e::es) g)
   (hbase:attributeBase (.Constant (.str sep) j p1) "join" X.env (eval (.Constant (.str sep) j p1) X.env)=eval (.Constant (.str sep) j p1) X.env:=by rfl)
   (hfew:((backTo pos (starEach (e::es) X.env)).all (fun x=>!x.1)&&(backToKw pos (keywordEach [] X.env)).all (fun x=>x.1.isSome)
     && decide ((e::es).length+([]:List Keyword).length+(if([]:List Keyword).isEmpty then 0 else 1)<30))=true:=by rfl)
   (hline:(apos.endLine==pos.line)=true:=by rfl) (hs:starEach (e::es) X.env=(false,eval e X.env)::starEach es X.env:=by exact q0 rfl) (hplain:(backTo pos (starEach es X.env)).any (·.1)=false:=by exact ju rfl) :
   FE X (.Call (.Attribute (.Constant (.str sep) j p1) "join" apos) (e::es) [] pos) (zsi sep g) :=
 jc (zun PySem.F.plainAttrs_str PySem.F.slot_str_join PySem.F.type_str_join zrl zo9 ha hbase hfew hline hs hplain) fun σ H Q h=>by obtain⟨ρ,ev,S,d,S',hE,hS,hf,k⟩:=h;obtain⟨⟨x,S1⟩,q1,hf⟩:=z8 hf;obtain⟨z,q4,hf⟩:=zbs hf;cases hf;refine⟨rfl,ρ,ev,S,x,_,hE,hS,q1,fun vs ρ1 H1 E1 hS1 r1=>?_⟩;obtain⟨ds,ys,rfl,h1,hl,rfl⟩:=znu q4;obtain⟨v,rfl,r⟩:=one r1;have r0:=r;obtain⟨p,us,rfl,_⟩:=r.refL;exact⟨rfl,p,_,ys,ρ1,rfl,r0,h1,hl,k _ ρ1 H1 E1 hS1 rfl⟩
theorem yp{o:Expr}{f h:E}{apos spos:Pos}(ho:FE X o f)(hv:FE X e h)
   (hbase:attributeBase o "append" X.env (eval o X.env)=eval o X.env:=by rfl)
   (hfew:((backTo pos (starEach [e] X.env)).all (fun x=>!x.1)&&(backToKw pos (keywordEach [] X.env)).all (fun x=>x.1.isSome)
     && decide ([e].length+([]:List Keyword).length+(if([]:List Keyword).isEmpty then 0 else 1)<30))=true:=by rfl)
   (hline:(apos.endLine==pos.line)=true:=by rfl) (hs:starEach [e] X.env=(false,eval e X.env)::starEach [] X.env:=by exact q0 rfl) (hplain:(backTo pos (starEach [] X.env)).any (·.1)=false:=by exact ju rfl)
   (hsw:swapsWith (.Call (.Attribute o "append" apos) [e] [] pos) none spos.line X.env=pure false:=by rfl) :
   FS X (.Expr (.Call (.Attribute o "append" apos) [e] [] pos) spos) (jz f h) :=
 xi (zks (zun PySem.F.plainAttrs_list PySem.F.slot_list_append PySem.F.type_list_append zk9 ho (za hv zb hs) hbase hfew hline hs hplain) hsw) fun σ H D h=>by
   obtain⟨ρ,ev,S,o,S',hE,hS,hf,k⟩:=h;obtain⟨⟨x,S1⟩,q1,hf⟩:=z8 hf;cases x with
   | obj a=>
     dsimp only at hf;split at hf
     · rename_i ds0 hd0;obtain⟨⟨y,S2⟩,q2,hf⟩:=z8 hf;dsimp only at hf;split at hf
       · rename_i ds hd;split at hf
         · rename_i hl;cases hf;refine⟨ρ,ev,S,_,S1,hE,hS,q1,fun v ρ1 H1 E1 hS1 r1=>?_⟩;have r1':=r1;unfold Rep at r1';obtain⟨p,rfl,hp⟩:=r1';obtain⟨us0,hu0,_⟩:=hS1.ob a _ p hd0 hp;refine⟨.inl ⟨rfl,_,SqL.of hu0⟩,ρ1,ev,S1,[y],S2,hE.mono E1,hS1,by simp only[aC,aN,q2,Option.bind_some],fun vs ρ2 H2 E2 hS2 r2=>?_⟩;obtain⟨w,rfl,r3⟩:=one r2;have hp2:=E2.pre _ _ hp;obtain⟨us,h2,h3⟩:=hS2.ob a _ p hd hp2;have e0:=zbc hS2 (.lst (us++[w])) hp2;refine⟨p,us,w,rfl,rfl,h2,by rw[<-h3.length];exact hl,?_⟩;refine k σ ρ2 _ ((E1.trans E2).trans e0) (hS2.set hp2 ⟨_,ql,?_⟩) (((hE.mono E1).mono E2).mono e0);exact(h3.append (RepL.cons r3 RepL.nil)).mono e0
         · cases hf
       · cases hf
     · cases hf
   |_=>cases hf
theorem zmj:bootBuiltins "list"=some (.type "list"):=by with_unfolding_all rfl
end
def zv9(n:Nat)(g:G):G:=fun ds S=>g (ds++List.replicate n .non) S
theorem yo(i:Nat){X:Cx}{x:Str}{px:Pos}{es:List Expr}{is:List Nat}{t:TGs}(hN:X.N.Nodup)(h:Names X es is t)(hi:X.N[i]? = some x:=by rfl)(hx:Loc X.env.scope x:=by first | exact Or.inl rfl | exact Or.inr rfl)
   (hf:X.fn x=true\/X.env.scope.names.lookup x=some .local:=by first | exact .inl rfl | exact .inr rfl | assumption)
   (hs:(assignEach (.Name x px::es) X.env).map (·.2)=assign (.Name x px) X.env::(assignEach es X.env).map (·.2):=by rfl):Names X (.Name x px::es) (i::is) (znz (zft i) t) :=
 .cons hN hi hx hf h (znh (zcj hN hi hx hf) h.pgs hs)
def zzi(K:zFr)(dV:Value):Nat->Prop
 |0=>dV=.none
 |n+1=>∃(T:Addr) (o:Obj) (m:Nat),dV=.ref T/\K.lookup T=some o/\o.data=.seq (Array.replicate (n+1) Value.none) m
structure HasDef (K:zFr) (mg:zMg) (x:Str) (st:Stmt) (nd:Nat):Prop where
 ex:∃(f:Addr) (fd:FuncData) (dV:Value),FunD K x x st f fd dV/\mg x=some (.ref f)/\zzi K dV nd
structure HasMth (K:zFr) (mg:zMg) (c m qual:Str) (st:Stmt):Prop where
 ex:∃(C f:Addr) (fd:FuncData),FunD K m qual st f fd .none/\mg c=some (.ref C)/\Cls K C/\Meth K C m f
structure HasMk (K:zFr) (mg:zMg) (c qual:Str) (st:Stmt) (nd:Nat):Prop where
 ex:∃(C f:Addr) (fd:FuncData) (dV:Value),FunD K "__init__" qual st f fd dV/\mg c=some (.ref C)/\Mk K C f/\zzi K dV nd
def zwv(x qual:Str)(st:Stmt)(ps:List Str):Prop:=∀(kV doc pm:Value) (an:Option Addr) (cdv ct:Value) (us:List Value),us.length=ps.length ->
 bindArgs (PySem.W.fnOf x qual (zbd st) (xk st) (zj st) .none kV doc pm an cdv ct) ⟨us,[]⟩=pure (ps.zip us)
def zzj(x qual:Str)(st:Stmt)(ps:List Str)(n:Nat):Prop:=∀(T:Addr) (kV doc pm:Value) (an:Option Addr) (cdv ct:Value) (us:List Value),us.length=n ->
 ∃kk,bindArgs (PySem.W.fnOf x qual (zbd st) (xk st) (zj st) (.ref T) kV doc pm an cdv ct) ⟨us,[]⟩=(seqItems? (.ref T) >>= kk)/\kk (some #[Value.none])=pure (ps.zip (us++List.replicate (ps.length-n) Value.none))
section
variable {P:Program}{w:World}{K:zFr}{mg:zMg}{base:Heap}{x qual c m:Str}{st:Stmt}{N ps:List Str}{k:Nat}{b:C}{dV:Value}{f:Addr}{fd:FuncData}
abbrev zxa(P:Program)(w:World)(K:zFr)(mg:zMg)(base:Heap)(N:List Str)(qual:Str)(st:Stmt)(k:Nat)(b:C):Prop :=
 ∀(f:Addr) (cdv:Value) (A:Around) (outer:List Env) (s:Shared) (H:Hp) (E:XK),Room k (A.deeper (envOfC qual (zj st) s.heap.objs.size f cdv)) ->
     FSs (zgj CX0 P w K mg base N qual (zj st) f cdv A outer s H E).nox (xk st) b
theorem FunD.binds0(F:FunD K x qual st f fd .none)(h:zwv x qual st ps):Binds K fd ps []:=by obtain⟨oc,od,kV,doc,pm,an,cdv,ct,osl,rfl,lk,hcd⟩:=F.ex;exact .all (h kV doc pm an cdv ct)
theorem FunD.binds1(F:FunD K x qual st f fd dV)(hd:zzi K dV 1){n:Nat}(h:zzj x qual st ps n)(hn:n<=ps.length):Binds K fd ps (List.replicate (ps.length-n) Value.none):=by obtain⟨oc,od,kV,doc,pm,an,cdv,ct,osl,rfl,lk,hcd⟩:=F.ex;obtain⟨T,o,mm,rfl,hT,ho⟩:=hd;intro s us hK hl;obtain⟨kk,h1,h2⟩:=h T kV doc pm an cdv ct us (by rw[z03,List.length_replicate]at hl;omega);exact BindsTo.of_defaults rfl (hK T o hT) ho h1 h2
theorem zhr:∀n:Nat,Vals (List.replicate n V.non) (List.replicate n Value.none)
 |0=>.nil
 |n+1=>.cons rfl (zhr n)
theorem zkl{ρ H}:∀n:Nat,RepL K mg ρ H (List.replicate n D.non) (List.replicate n V.non)
 |0=>RepL.nil
 |n+1=>RepL.cons rfl (zkl n)
theorem HasDef.val{nd:Nat}(h:HasDef K mg x st nd):∃f,mg x=some (.ref f):=let⟨f,_,_,_,e,_⟩:=h.ex;⟨f,e⟩
theorem zr6:FnOk P w K mg base CX0 k f fd ps (spG K mg fun _ _=>none):=by
 have no:∀vs H Q E,¬ spG K mg (fun _ _=>none) vs H Q E:=fun vs H Q E h=>by obtain⟨_,_,_,_,_,_,_,h,_⟩:=h;cases h
 exact⟨fun vs H Q E h=>absurd h (no vs H Q E),fun A outer s H args us vs Q E _ _ _ _ h=>absurd h (no vs H Q E)⟩
theorem HasDef.cal(h:HasDef K mg x st 0)(S:FnScope N ps (zj st))(hb:zwv x x st ps)(hbody:zxa P w K mg base N x st k b):Cal P w K mg base (k+1) x (z5 N.length ps.length b):=by obtain⟨f,fd,dV,F,hm,rfl⟩:=h.ex;exact⟨f,fd,ps,[],[],[],_,F.ok S fun cdv A outer s H E hr=>hbody f cdv A outer s H E hr,hm,F.kp,F.binds0 hb,.nil,fun _ _=>RepL.nil,fun args S r e=>by rw[z1z];exact e⟩
theorem HasDef.none0(h:HasDef K mg x st 0)(hb:zwv x x st ps):Cal P w K mg base k x (fun _ _=>none):=by obtain⟨f,fd,dV,F,hm,rfl⟩:=h.ex;exact⟨f,fd,ps,[],[],[],_,zr6,hm,F.kp,F.binds0 hb,.nil,fun _ _=>RepL.nil,fun args S r e=>by cases e⟩
theorem HasMth.mth(h:HasMth K mg c m qual st)(S:FnScope N ps (zj st))(hb:zwv m qual st ps)(hbody:zxa P w K mg base N qual st k b):Mth P w K mg base (k+1) c m (z5 N.length ps.length b):=by obtain⟨C,f,fd,F,hm,hc,hme⟩:=h.ex;exact⟨C,f,fd,ps,[],[],[],_,F.ok S fun cdv A outer s H E hr=>hbody f cdv A outer s H E hr,hm,hc,hme,F.binds0 hb,.nil,fun _ _=>RepL.nil,fun args S r e=>by rw[z1z];exact e⟩
theorem HasMk.mk1(h:HasMk K mg c qual st 1)(S:FnScope N ps (zj st))(hb:zzj "__init__" qual st ps ps.length)(hbody:zxa P w K mg base N qual st k b):Mak P w K mg base (k+1) c (z5 N.length ps.length b):=by obtain⟨C,f,fd,dV,F,hm,hme,hd⟩:=h.ex;have B:=F.binds1 hd hb (z07 _);rw[z3f]at B;exact⟨C,f,fd,ps,[],[],[],_,F.ok S fun cdv A outer s H E hr=>hbody f cdv A outer s H E hr,hm,hme,B,.nil,fun _ _=>RepL.nil,fun args S r e=>by rw[z1z];exact e⟩
theorem HasMk.mk1d(h:HasMk K mg c qual st 1)(S:FnScope N ps (zj st)){n:Nat}(hn:ps.length=n+1)(hb:zzj "__init__" qual st ps n)(hbody:zxa P w K mg base N qual st k b):Mak P w K mg base (k+1) c (zv9 1 (z5 N.length ps.length b)):=by obtain⟨C,f,fd,dV,F,hm,hme,hd⟩:=h.ex;have B:=F.binds1 hd hb (by omega);rw[hn,Nat.add_sub_cancel_left]at B;exact⟨C,f,fd,ps,_,_,_,_,F.ok S fun cdv A outer s H E hr=>hbody f cdv A outer s H E hr,hm,hme,B,zhr 1,fun _ _=>zkl 1,fun args S r e=>e⟩
end
section
variable {K:zFr}{h:Heap}{mg:zMg} (X:K.In h) (G:h.Ns mainGlobals mg)
include X G
theorem has_def{x:Str}{st:Stmt}{f:Addr}{oc:Value}{od an:Option Addr}{osl:Array (Option Value)}{kV doc pm cdv ct:Value}(a:PySem.W.nsIn K mainGlobals x=some (some (.ref f)))
   (l:K.lookup f=some ⟨oc,od,.func (PySem.W.fnOf x x (zbd st) (xk st) (zj st) .none kV doc pm an cdv ct),osl⟩) (c:PySem.W.codeIn K cdv x=true) (k:PySem.W.keepIn K (.ref f)=true):HasDef K mg x st 0 :=
 ⟨f,_,.none,⟨⟨oc,od,kV,doc,pm,an,cdv,ct,osl,rfl,l,c⟩,k⟩,z3k X G a,rfl⟩
theorem has_mth{cn m qual:Str}{st:Stmt}{C f:Addr}{oc:Value}{od an:Option Addr}{osl:Array (Option Value)}{kV doc pm cdv ct:Value}(aC:PySem.W.nsIn K mainGlobals cn=some (some (.ref C)))(hc:Cls K C)
   (a:PySem.W.findIn K (.ref C) m=some (some (.ref f))) (i:PySem.W.isFn K (.ref f)=true)
   (l:K.lookup f=some ⟨oc,od,.func (PySem.W.fnOf m qual (zbd st) (xk st) (zj st) .none kV doc pm an cdv ct),osl⟩) (c:PySem.W.codeIn K cdv qual=true) (k:PySem.W.keepIn K (.ref f)=true):HasMth K mg cn m qual st :=
 ⟨C,f,_,⟨⟨oc,od,kV,doc,pm,an,cdv,ct,osl,rfl,l,c⟩,k⟩,z3k X G aC,hc,⟨a,i,k⟩⟩
theorem has_mk1{cn qual:Str}{st:Stmt}{C f T:Addr}{oc tc:Value}{od an td:Option Addr}{osl tsl:Array (Option Value)}{kV doc pm cdv ct:Value}{m:Nat}(aC:PySem.W.nsIn K mainGlobals cn=some (some (.ref C)))
   (mk:PySem.W.makesIn K C=true) (kc:PySem.W.keepIn K (.ref C)=true) (a:PySem.W.findIn K (.ref C) "__init__"=some (some (.ref f))) (i:PySem.W.isFn K (.ref f)=true)
   (l:K.lookup f=some ⟨oc,od,.func (PySem.W.fnOf "__init__" qual (zbd st) (xk st) (zj st) (.ref T) kV doc pm an cdv ct),osl⟩) (c:PySem.W.codeIn K cdv qual=true) (k:PySem.W.keepIn K (.ref f)=true)
   (t:K.lookup T=some ⟨tc,td,.seq #[Value.none] m,tsl⟩):HasMk K mg cn qual st 1 :=
 ⟨C,f,_,.ref T,⟨⟨oc,od,kV,doc,pm,an,cdv,ct,osl,rfl,l,c⟩,k⟩,z3k X G aC,⟨mk,a,i,kc⟩,T,_,m,rfl,t,rfl⟩
theorem has_cls{cn:Str}{C:Addr}(aC:PySem.W.nsIn K mainGlobals cn=some (some (.ref C)))(pg:PySem.W.plainGet K C Str.empty=true)(hd:PySem.W.hasDictIn K C=true)(po:PySem.W.plainOver K C=true)(sa:PySem.W.findIn K (.ref C) "__setattr__"=some (some (.builtin "object.__setattr__"))):Cls K C:=⟨pg,hd,po,sa⟩
theorem has_fld{cn n:Str}{C:Addr}(aC:PySem.W.nsIn K mainGlobals cn=some (some (.ref C)))(hc:Cls K C)(a:PySem.W.findIn K (.ref C) n=some none):Fld K mg cn n:=fun C' e=>by rw[z3k X G aC]at e;cases e;exact⟨hc,a⟩
theorem has_int{x:Str}{n:Int}{t:Tok}(a:PySem.W.nsIn K mainGlobals x=some (some (.int n t))):∃t,mg x=some (.int n t):=⟨t,z3k X G a⟩
end
theorem zh4{K mg ρ H}:∀ns:List Int,RepL K mg ρ H (ns.map D.int) (ns.map V.int)
 | []=>RepL.nil
 |_::ns=>RepL.cons rfl (zh4 ns)
def zfy(op op':D->D->Option D)(f g h:E):E:=fun ev S=>(f ev S).bind fun p=>(g ev p.2).bind fun q=>(op p.1 q.1).bind fun z=>match z with
 | .bl true=>(h ev q.2).bind fun r=>(op' q.1 r.1).map fun d=>(d,r.2)
 | .bl false=>some (.bl false,q.2)
 |_=>none
theorem ls1{P:List Value->Prop}(h:∀a0,P [a0])(us:List Value)(hl:us.length=1):P us:=match us,hl with
 | [a0],_=>h a0
theorem ls2{P:List Value->Prop}(h:∀a0 a1,P [a0,a1])(us:List Value)(hl:us.length=2):P us:=match us,hl with
 | [a0,a1],_=>h a0 a1
theorem ls3{P:List Value->Prop}(h:∀a0 a1 a2,P [a0,a1,a2])(us:List Value)(hl:us.length=3):P us:=match us,hl with
 | [a0,a1,a2],_=>h a0 a1 a2
theorem ls4{P:List Value->Prop}(h:∀a0 a1 a2 a3,P [a0,a1,a2,a3])(us:List Value)(hl:us.length=4):P us:=match us,hl with
 | [a0,a1,a2,a3],_=>h a0 a1 a2 a3
theorem ls5{P:List Value->Prop}(h:∀a0 a1 a2 a3 a4,P [a0,a1,a2,a3,a4])(us:List Value)(hl:us.length=5):P us:=match us,hl with
 | [a0,a1,a2,a3,a4],_=>h a0 a1 a2 a3 a4
def zis(g:As):E:=fun ev S=>(g ev S).bind fun q=>match q.1 with
 | [.tup ds]=>some (.lst ds,q.2)
 | [.lst ds]=>some (.lst ds,q.2)
 |_=>none
def zem(op op' op2:D->D->Option D)(f g h i:E):E:=fun ev S=>(f ev S).bind fun p=>(g ev p.2).bind fun q=>(op p.1 q.1).bind fun z=>match z with
 | .bl true=>(h ev q.2).bind fun r=>(op' q.1 r.1).bind fun z=>(match z with
   | .bl true=>(i ev r.2).bind fun t=>(op2 r.1 t.1).map fun d=>(d,t.2)
   | .bl false=>some (.bl false,r.2)
   |_=>none)
 | .bl false=>some (.bl false,q.2)
 |_=>none
def zi7(is:List Nat)(f:E):C:=fun ev S=>(f ev S).bind fun p=>match p.1 with
 | .lst ds=>(yd ev is ds).map fun e=>(.nx e,p.2)
 |_=>none
section
variable {prog:Program}{w:World}{A:Around}{E:zVP}{s:Shared}
theorem zit{it t:Addr}{items:Array Value}(hne:t≠it):∀(n i:Nat) (s:Shared) (Q:List Value->Shared->Prop),s.heap.IsListIter it t i->s.heap.IsList t items->i+n<=items.size ->
   (∀h',h'.IsListIter it t (i+n)->Heap.SameBut it s.heap h'->Q ((items.toList.drop i).take n) { s with heap:=h' })->wpAny (model prog w) A (draw (.ref it) n) Q E s
 | 0,i,s,Q,hit,_,_,hQ=>by show wpAny _ _ (pure []) Q E s;exact z2p (by simpa using hQ s.heap hit (Heap.SameBut.refl ..))
 | n+1,i,s,Q,hit,ht,hle,hQ=>by
   have hlt:i<items.size:=by omega
   show wpAny _ _ (pyNext (.ref it) >>= _) Q E s;refine z1v (wpAny_pyNext_list_item hit ht (x:=items[i]) (by simp[hlt]) fun h1 hit1 hs1=>?_);refine z1v (z3y (zit hne n (i+1) _ _ hit1 (ht.extBut hs1.extBut hne) (by omega) fun h2 hit2 hs2=>z2p ?_));have hd:items.toList.drop i=items[i]::items.toList.drop (i+1):=by simp[z18,hlt]
   have:=hQ h2 (by rw[show i+(n+1)=i+1+n by omega];exact hit2) (hs1.trans hs2);rw[hd,List.take_succ_cons]at this;exact this
theorem zi2{t:Addr}{items:Array Value}{Q:List Value->Shared->Prop}(hh:A.handled=none)(ht:s.heap.IsList t items)
   (hQ:∀h',Heap.ExtBut s.heap.objs.size s.heap h'->Q items.toList { s with heap:=h' }):wpAny (model prog w) A (unpackItems (.ref t) items.size none) Q E s:=by
 have hlt:t≠s.heap.objs.size:=by obtain⟨o,ho,_⟩:=ht;exact z1o (z1l ho)
 unfold unpackItems;refine z1v ?_
 · unfold notIterableAtAll;refine z1v (wpAny_specialOf ht.typeIs slot_list_iter.lookup ?_);refine z2p ?_;simp only[z3m,if_false];refine z1v (z3y (wpAny_pyIter_list ht ?_));refine z1v (z3y (zit hlt items.size 0 _ _ ⟨_,z1w _ rfl,rfl,rfl⟩ (ht.push _) (by omega) fun h1 hit1 hs1=>?_));have hall:List.take items.size (List.drop 0 items.toList)=items.toList:=by rw[List.drop_zero];exact List.take_of_length_le (by simp)
   rw[hall];rw[z10 (by simp)];have ht1:h1.IsList t items:=(ht.push _).extBut hs1.extBut hlt;refine z1v (z3y (wpAny_pyNext_list_end hh hit1 ht1 (by simp) fun h2 he2=>?_));simp only[Option.isSome_none,z3m,if_false];refine z2p (hQ h2 fun b o hb e=>he2 b o hb (hs1.extBut b o hb (z1i _ e)))
theorem zjt{env:Env}{elts:List Expr}{x1}{pos:Pos}{t:Addr}{items:Array Value}{Q:Unit->Shared->Prop}(hh:A.handled=none)(ht:s.heap.IsList t items)
   (hn:(assignEach elts env).length=items.size) (hstar:(assignEach elts env).findIdx? (·.1)=none)
   (h:∀h',Heap.ExtBut s.heap.objs.size s.heap h'->wpAny (model prog w) A (assignInOrder ((assignEach elts env).map (·.2)) items.toList) Q E { s with heap:=h' }) :
   wpAny (model prog w) A (assign (.Tuple elts x1 pos) env (.ref t)) Q E s:=by
 rw[assign_Tuple];refine z1v (wpAny_standAt ?_);unfold unpack;rw[hn,hstar];exact z1v (z3y (zi2 hh ht h))
end
section
variable {X:Cx}{e:Expr}{es:List Expr}{f:E}{g:As}{p pos:Pos}
def z0t(K:zFr)(n:Nat)(t:TGs):TG:=fun v σ H Q=>∃a xs,v=.ref a/\SqL K H a xs/\xs.length=n/\t xs σ H Q
theorem zuc{es:List Expr}{k:Nat}{t:TGs}{n:Nat}(hc:X.calm=true)(h:PGs X es t)
   (hn:(assignEach es X.env).length=n:=by rfl) (hst:(assignEach es X.env).findIdx? (·.1)=none:=by rfl):PG X (.Tuple es k pos) (z0t X.K n t):=by
 intro pins s σ H v u Q I r hw;obtain⟨a,xs,e1,hq,hl,hw⟩:=hw;subst e1;cases r;obtain⟨its,rv,ht,hz⟩:=I.list hq;refine zjt (I.ok.hd hc) ht.isList (by simp[hn,<-hl,rv.length]) hst fun h' hx=>?_;have I1:Inv X pins σ H { s with heap:=h' }:=I.kept (t':=s.toks) fun b o e=>hx b o (z1o (z1l e)) e;exact h pins _ σ H xs _ Q I1 (by simpa using rv) hw
theorem zr3(is:List Nat){es:List Expr}{t:TGs}{k:Nat}{pt:Pos}(hn:Names X es is t)(h:FE X e f)(hc:X.calm=true:=by rfl)(hl:(assignEach es X.env).length=is.length:=by rfl)(hst:(assignEach es X.env).findIdx? (·.1)=none:=by rfl)
   (hs:swapsWithSole [.Tuple es k pt] e pos.line X.env=pure false:=by rfl) (hw:swappedStores [.Tuple es k pt] e X.env=pure none:=by rfl) (h1:(assignEach [.Tuple es k pt] X.env).map (·.2)=[assign (.Tuple es k pt) X.env]:=by rfl) :
   FS X (.Assign [.Tuple es k pt] e pos) (zi7 is f):=xi (zt9 h (zuc hc hn.pgs hl hst) hs hw h1) fun σ H D h=>by
 obtain⟨ρ,ev,S,o,S',hE,hS,hf,k⟩:=h;obtain⟨⟨d,S1⟩,q1,hf⟩:=z8 hf;cases d with
 | lst ds=>
   obtain⟨ev',q2,hf⟩:=zbs hf;cases hf;refine⟨ρ,ev,S,_,_,hE,hS,q1,fun v ρ1 H1 E1 hS1 r1=>?_⟩;obtain⟨p,vs,rfl,t,r⟩:=r1.refL;exact⟨p,vs,rfl,t.sq,by rw[<-r.length];exact zbr q2,zif hn r (hE.mono E1) q2 fun σ' hE'=>k σ' ρ1 H1 E1 hS1 hE'⟩
 |_=>cases hf
theorem zn6(hm:X.mg "list"=none)(ha:FA X (e::es) g)(hg:Gl X "list":=by rfl)(he:starEach (e::es) X.env=(false,eval e X.env)::starEach es X.env:=by exact q0 rfl)(hpl:(backTo pos (starEach es X.env)).any (·.1)=false:=by exact ju rfl):FE X (.Call (.Name "list" p) (e::es) [] pos) (zis g) :=
 jc (zkx zf4 hg hm zmj ha (by decide) (by decide) he hpl) fun σ H Q h=>by
   obtain⟨ρ,ev,S,d,S',hE,hS,hf,k⟩:=h;obtain⟨⟨x,S1⟩,q1,hf⟩:=z8 hf;refine⟨ρ,ev,S,x,S1,hE,hS,q1,fun vs ρ1 H1 E1 hS1 r1=>?_⟩;have fin:∀{us:List V}{ds:List D},RepL X.K X.mg ρ1 H1 ds us->(d,S')=(D.lst ds,S1)->∀l,H1 l=none->Q (.ref l) (upd H1 l (.lst us)):=by intro us ds r e l hl;cases e;exact k _ ρ1 _ (E1.trans (kf hS1 _ hl)) (hS1.new _ hl) (Rep.lst (s:=hS1) hl r)
   dsimp only at hf;split at hf
   · obtain⟨v,rfl,r⟩:=one r1;obtain⟨b,us,rfl,t,r⟩:=r.refT;exact⟨b,us,rfl,.inr t.sq,fin r (z1s hf).symm⟩
   · obtain⟨v,rfl,r⟩:=one r1;obtain⟨b,us,rfl,t,r⟩:=r.refL;exact⟨b,us,rfl,.inl t.sq,fin r (z1s hf).symm⟩
   · cases hf
theorem zqf{R R':R2}{op op':D->D->Option D}{f g h:E}{σ:L2.St}{H:Hp}{Q:VK}(hs:ze5 X.K X.mg R fun _=>op)(hs':ze5 X.K X.mg R' fun _=>op')(h0:tE X.K X.mg (zfy op op' f g h) σ H Q):zoy R R' (tE X.K X.mg f) (tE X.K X.mg g) (tE X.K X.mg h) σ H Q:=by
 obtain⟨ρ,ev,S,d,S',hE,hS,hf,k⟩:=h0;obtain⟨⟨x,S1⟩,q1,hf⟩:=z8 hf;obtain⟨⟨y,S2⟩,q2,hf⟩:=z8 hf;obtain⟨z,q3,hf⟩:=z8 hf;refine⟨ρ,ev,S,x,S1,hE,hS,q1,fun v ρ1 H1 E1 hS1 r1=>⟨ρ1,ev,S1,y,S2,hE.mono E1,hS1,q2,fun u ρ2 H2 E2 hS2 r2=>?_⟩⟩;refine hs ρ2 H2 _ v u x y z _ hS2 (r1.mono E2) r2 q3 fun w H3 E3 hS3 r3=>?_;dsimp only at hf;split at hf
 · obtain⟨⟨t,S4⟩,q4,hf⟩:=z8 hf;obtain⟨dd,q5,hf⟩:=zbs hf;cases hf;refine⟨true,r3,ρ2,ev,S2,t,S4,((hE.mono E1).mono E2).mono E3,hS3,q4,fun tv ρ4 H4 E4 hS4 r4=>?_⟩;exact hs' ρ4 H4 _ u tv y t _ _ hS4 ((r2.mono E3).mono E4) r4 q5 fun w' H5 E5 hS5 r5=>k w' ρ4 H5 ((((E1.trans E2).trans E3).trans E4).trans E5) hS5 r5
 · cases hf;exact⟨false,r3,k _ ρ2 H3 ((E1.trans E2).trans E3) hS3 rfl⟩
 · cases hf
theorem zsc{a b c:Expr}{f g h:E}{pos:Pos}(ha:FE X a f)(hb:FE X b g)(hc:FE X c h)(hm:lastMarks [.LtE,.Lt] [b,c]=false:=by with_unfolding_all rfl):FB X (.Compare a [.LtE,.Lt] [b,c] pos) (bE (zfy zc8 zbp f g h)) :=
 zch (znc zja zre ha hb hc hm) fun _ _ _ h=>zqe (fun _ h=>zqf zag zag h) h
def zqh(r r' r2:R2)(ta tb tc td:TE):TE:=fun σ H Q=>ta σ H fun x H1=>tb σ H1 fun y H2=>r x y H2 fun z H3=>∃k,z=.bl k /\
 (if k=true then tc σ H3 fun w H4=>r' y w H4 fun z' H5=>∃k',z'=.bl k'/\(if k'=true then td σ H5 fun u H6=>r2 w u H6 Q else Q (.bl false) H5)else Q (.bl false) H3)
theorem zkr{a b c d:Expr}{ta tb tc td:TE}{op op' op2:CmpOp}{r r' r3:R2}(ho:OpR X (compareOp op) r)(ho':OpR X (compareOp op') r')(ho2:OpR X (compareOp op2) r3)(ha:PE X a ta)(hb:PE X b tb)(hc:PE X c tc)(hd:PE X d td)
   (hm:lastMarks [op,op',op2] [b,c,d]=false:=by with_unfolding_all rfl):PT X (.Compare a [op,op',op2] [b,c,d] pos) (zm3 (zqh r r' r3 ta tb tc td)):=by
 intro pins s σ H Q I h;refine isTrue_chain (thn (ha pins s σ H _ I h) fun v s1 ⟨x,H1,I1,r1,q1⟩=>test_link (thn (hb pins s1 σ H1 _ I1 q1) fun u s2 ⟨y,H2,I2,r2,q2⟩=>
   thn (ho pins s2 σ H2 x y v u _ I2 r1 r2 q2) fun d s3 ⟨z,H3,I3,r3,k,e,q3⟩=>?_)) hm
 subst e;cases r3;refine z2e ?_;cases k with
 | false=>
   obtain⟨k',e',q'⟩:=q3;cases e';exact ite_ff ⟨H3,I3,q'⟩
 | true=>
   refine ite_tt (test_link (thn (hc pins s3 σ H3 _ I3 q3) fun w' s4 ⟨z',H4,I4,r4,q4⟩=>thn (ho' pins s4 σ H4 y z' u w' _ I4 r2 r4 q4) fun d' s5 ⟨z2,H5,I5,r5,k2,e2,q5⟩=>?_));subst e2;cases r5;refine z2e ?_;cases k2 with
   | false=>
     obtain⟨k',e',q'⟩:=q5;cases e';exact ite_ff ⟨H5,I5,q'⟩
   | true=>
     refine ite_tt (test_last (thn (hd pins s5 σ H5 _ I5 q5) fun w2 s6 ⟨z6,H6,I6,r6,q6⟩=>thn (ho2 pins s6 σ H6 z' z6 w' w2 _ I6 r4 r6 q6) fun d6 s7 ⟨z7,H7,I7,r7,k7,e7,q7⟩=>?_));subst e7;cases r7;exact z2e ⟨H7,I7,q7⟩
theorem zl3{a b c d:Expr}{f g h i:E}{pos:Pos}(ha:FE X a f)(hb:FE X b g)(hc:FE X c h)(hd:FE X d i)(hm:lastMarks [.LtE,.LtE,.LtE] [b,c,d]=false:=by with_unfolding_all rfl):FB X (.Compare a [.LtE,.LtE,.LtE] [b,c,d] pos) (bE (zem zc8 zc8 zc8 f g h i)) :=
 zch (zkr zja zja zja ha hb hc hd hm) fun σ H Q h=>zqe (fun Q h0=>by
   obtain⟨ρ,ev,S,d,S',hE,hS,hf,k⟩:=h0;obtain⟨⟨x,S1⟩,q1,hf⟩:=z8 hf;obtain⟨⟨y,S2⟩,q2,hf⟩:=z8 hf;obtain⟨z,q3,hf⟩:=z8 hf;refine⟨ρ,ev,S,x,S1,hE,hS,q1,fun v ρ1 H1 E1 hS1 r1=>⟨ρ1,ev,S1,y,S2,hE.mono E1,hS1,q2,fun u ρ2 H2 E2 hS2 r2=>?_⟩⟩;refine zag ρ2 H2 _ v u x y z _ hS2 (r1.mono E2) r2 q3 fun w H3 E3 hS3 r3=>?_;dsimp only at hf;split at hf
   · obtain⟨⟨t,S4⟩,q4,hf⟩:=z8 hf;obtain⟨dd,q5,hf⟩:=z8 hf;refine⟨true,r3,ρ2,ev,S2,t,S4,((hE.mono E1).mono E2).mono E3,hS3,q4,fun tv ρ4 H4 E4 hS4 r4=>?_⟩;refine zag ρ4 H4 _ u tv y t _ _ hS4 ((r2.mono E3).mono E4) r4 q5 fun w' H5 E5 hS5 r5=>?_;split at hf
     · obtain⟨⟨t6,S6⟩,q6,hf⟩:=z8 hf;obtain⟨d7,q7,hf⟩:=zbs hf;cases hf;refine⟨true,r5,ρ4,ev,S4,t6,S6,((((hE.mono E1).mono E2).mono E3).mono E4).mono E5,hS5,q6,fun tv6 ρ6 H6 E6 hS6 r6=>?_⟩;exact zag ρ6 H6 _ tv tv6 t t6 _ _ hS6 ((r4.mono E5).mono E6) r6 q7 fun w7 H7 E7 hS7 r7=>k w7 ρ6 H7 ((((((E1.trans E2).trans E3).trans E4).trans E5).trans E6).trans E7) hS7 r7
     · cases hf;exact⟨false,r5,k _ ρ4 H5 ((((E1.trans E2).trans E3).trans E4).trans E5) hS5 rfl⟩
     · cases hf
   · cases hf;exact⟨false,r3,k _ ρ2 H3 ((E1.trans E2).trans E3) hS3 rfl⟩
   · cases hf) h
end
mutual
def bnd(n:Nat):D->Bool
 | .obj i=>decide (i<n)
 | .tup ds=>bndL n ds
 | .lst ds=>bndL n ds
 | .clo _ ds=>bndL n ds
 |_=>true
def bndL(n:Nat):List D->Bool
 | []=>true
 |d::ds=>bnd n d&&bndL n ds
end
def zgc(n:Nat):MO->Bool
 | .lst ds=>bndL n ds
 | .ins _ fs=>bndL n (fs.map (·.2))
 | .dct kvs=>bndL n (kvs.map (·.2))
 | .fdc kvs=>bndL n (kvs.map (·.2))
 | .exc _=>true
 | .tab _ _=>true
def frz(g:G):G:=fun ds S=>(g ds S).bind fun r=>if(r.2.take S.length).all (zgc S.length)=true then (match r.1 with
 | .obj i=>if i<S.length then some (.obj i,r.2.take S.length)else (match r.2[i]? with
   |some (.lst us)=>if bndL S.length us=true then some (.lst us,r.2.take S.length)else none
   |_=>none)
 |d=>if bnd S.length d=true then some (d,r.2.take S.length)else none)else none
section
variable {K:zFr}{mg:zMg}{ρ ρ':List Addr}{H H':Hp}{S S1:Sto}{n:Nat}
theorem TupAt.cut{p:Addr}{vs:List V}(h:TupAt K ρ H p vs):TupAt K (ρ.take n) H p vs:=h.imp (fun⟨a,b⟩=>⟨fun z=>a (z13 z),b⟩) id
theorem LstAt.cut{p:Addr}{vs:List V}(h:LstAt K ρ H p vs):LstAt K (ρ.take n) H p vs:=h.imp (fun⟨a,b⟩=>⟨fun z=>a (z13 z),b⟩) id
theorem Cells.cut:∀{xs:List Str}{us:List V}{cl:zLA},Cells ρ H xs us cl->Cells (ρ.take n) H xs us cl
 | [],[],[],_=>trivial
 |x::xs,u::us,p::cl,h=>⟨h.1,fun z=>h.2.1 (z13 z),h.2.2.1,Cells.cut h.2.2.2⟩
 | [],[],_::_,h=>h.elim
 | [],_::_,_,h=>h.elim
 |_::_,[],_,h=>h.elim
 |_::_,_::_,[],h=>h.elim
mutual
theorem Rep.cut:∀{d:D}{v:V},bnd n d=true->Rep K mg ρ H d v->Rep K mg (ρ.take n) H d v
 | .non,_,_,h=>h
 | .bl _,_,_,h=>h
 | .int _,_,_,h=>h
 | .str _,_,_,h=>h
 | .fn _,_,_,h=>h
 | .ty _,_,_,h=>h
 | .tup ds,_,hb,h=>by unfold Rep at h ⊢;unfold bnd at hb;obtain⟨p,vs,e1,t,r⟩:=h;exact⟨p,vs,e1,t.cut,RepL.cut hb r⟩
 | .lst ds,_,hb,h=>by unfold Rep at h ⊢;unfold bnd at hb;obtain⟨p,vs,e1,t,r⟩:=h;exact⟨p,vs,e1,t.cut,RepL.cut hb r⟩
 | .obj i,_,hb,h=>by unfold Rep at h ⊢;unfold bnd at hb;obtain⟨a,e1,e2⟩:=h;exact⟨a,e1,by rw[z2w (z2x hb)];exact e2⟩
 | .lam t,_,_,h=>by unfold Rep at h ⊢;obtain⟨a,e1,n1,c,pm,ct,n2,h1,h2⟩:=h;exact⟨a,e1,fun z=>n1 (z13 z),c,pm,ct,fun z=>n2 (z13 z),h1,h2⟩
 | .clo t vs,_,hb,h=>by unfold Rep at h ⊢;unfold bnd at hb;obtain⟨a,us,e1,⟨n1,c,pm,ct,cl,n2,h1,h2,h3,h4⟩,r⟩:=h;exact⟨a,us,e1,⟨fun z=>n1 (z13 z),c,pm,ct,cl,fun z=>n2 (z13 z),h1,h2,h3,h4.cut⟩,RepL.cut hb r⟩
theorem RepL.cut:∀{ds:List D}{vs:List V},bndL n ds=true->RepL K mg ρ H ds vs->RepL K mg (ρ.take n) H ds vs
 | [],_,_,h=>h
 | d::ds,_,hb,h=>by unfold RepL at h ⊢;unfold bndL at hb;obtain⟨v,r,e,h1,h2⟩:=h;obtain⟨b1,b2⟩:=z3x.mp hb;exact⟨v,r,e,Rep.cut b1 h1,RepL.cut b2 h2⟩
end
theorem MOk.cut{a:Addr}{m:MO}(hb:zgc n m=true)(h:MOk K mg ρ H a m):MOk K mg (ρ.take n) H a m:=by
 cases m with
 |lst ds=>obtain⟨vs,h1,h2⟩:=h;exact⟨vs,h1,h2.cut hb⟩
 |ins c fs=>obtain⟨C,dx,vs,h0,h1,h2,h3⟩:=h;exact⟨C,dx,vs,h0,h1,h2,h3.cut hb⟩
 |dct kvs=>obtain⟨vs,h1,h2,h3⟩:=h;exact⟨vs,h1,h2,h3.cut hb⟩
 |fdc kvs=>obtain⟨o,vs,h1,h2,h3⟩:=h;exact⟨o,vs,h1,h2,h3.cut hb⟩
 |exc c=>exact h
 |tab x q=>obtain⟨h0,ps,h1,h2,h3⟩:=h;exact⟨h0,ps,h1,h2,fun pos cv z=>let⟨c,z1,z2,z3⟩:=h3 pos cv z;⟨c,z1,fun y=>z2 (z13 y),z3⟩⟩
theorem StOk.cut(hS:StOk K mg ρ H S)(hb:(S.take n).all (zgc n)=true):StOk K mg (ρ.take n) H (S.take n):=by
 refine⟨by rw[z1n,z1n,hS.len],hS.nd.sublist (List.take_sublist _ _),fun i m a e1 e2=>?_⟩;have hi:i<n:=by have:=(z06.mp e1).1;rw[z1n]at this;omega
 have hm:m∈S.take n:=z1m e1;rw[z2w hi]at e1 e2;exact(hS.ob i m a e1 e2).cut (z12.mp hb m hm)
theorem Ext.cut(e:Ext ρ H ρ' H')(hn:ρ.length=n):Ext ρ H (ρ'.take n) H' :=
 ⟨fun i a h=>by rw[z2w (by rw[<-hn];exact(z06.mp h).1)];exact e.pre i a h,e.keep,fun b hb=>e.new b (z13 hb),e.frz⟩
theorem zvj{g:G}(vs:List V)(H:Hp)(Q:VK)(E:XK)(h:spG K mg (frz g) vs H Q E):spG K mg g vs H Q E:=by
 obtain⟨ρ,ds,S,d,S',hr,hS,hf,k⟩:=h;obtain⟨⟨d1,S1⟩,q1,hf⟩:=z8 hf;refine⟨ρ,ds,S,d1,S1,hr,hS,q1,fun v ρ' H' E1 hS1 r1=>?_⟩;dsimp only at hf;split at hf
 · rename_i hb;have e0:=E1.cut hS.len;have s0:=hS1.cut hb;split at hf
   · rename_i i;split at hf
     · rename_i hi;cases hf;exact k v _ H' e0 s0 (r1.cut (by unfold bnd;exact z1c hi))
     · rename_i hi;split at hf
       · rename_i us eu;split at hf
         · rename_i hu;cases hf;unfold Rep at r1;obtain⟨a,rfl,ea⟩:=r1;obtain⟨ws,m1,m2⟩:=hS1.ob i _ a eu ea;refine k _ _ H' e0 s0 ?_;unfold Rep;refine⟨a,ws,rfl,.inl ⟨fun z=>?_,.inl m1⟩,m2.cut hu⟩;obtain⟨j,hj,ej⟩:=z2k z;rw[z1n]at hj;rw[List.getElem_take]at ej;have hj2:j<ρ'.length:=by omega
           have e3:ρ'[j]? = ρ'[i]?:=by rw[ea,z08 hj2,ej]
           have:=(List.getElem?_inj hj2 hS1.nd).mp e3;omega
         · cases hf
       · cases hf
   · split at hf
     · rename_i hd;cases hf;exact k v _ H' e0 s0 (r1.cut hd)
     · cases hf
 · cases hf
end
theorem Cal.frz{P:Program}{w:World}{K:zFr}{mg:zMg}{base:Heap}{k:Nat}{x:Str}{g:G}(c:Cal P w K mg base k x g):Cal P w K mg base k x (frz g):=by obtain⟨f,fd,ps,ds,dvs,dds,gg,FF,hm,hk,hb,hd,hdd,hg⟩:=c.ex;refine⟨f,fd,ps,ds,dvs,dds,_root_.F.frz gg,FnOk.imp FF zvj,hm,hk,hb,hd,hdd,fun args S r e=>?_⟩;obtain⟨r0,q,e⟩:=z8 e;show(gg (args++dds) S).bind _=_;rw[hg args S r0 q];exact e
end F
namespace F
open PySem L2 PySem.Spec PyProof.Rows
def zep(c:B)(g:E)(fr:Ev):List D->Sto->Option (List D×Sto)
 | [],S=>some ([],S)
 |d::ds,S=>(c (some d::fr) S).bind fun p=>if p.1=true then (g (some d::fr) p.2).bind fun q=>(zep c g fr ds q.2).bind fun r=>some (q.1::r.1,r.2)else zep c g fr ds p.2
def ziy:B:=fun _ S=>some (true,S)
inductive FT (X:Cx):List Expr->B->Prop
 |nil:FT X [] ziy
 |one {e:Expr}{u:B}:FB X e u->FT X [e] u
section
variable {X:Cx}{pins:zAO}{σ:L2.St}{H:Hp}{s:Shared}{scope:Scope}{x:Str}{N':List Str}{fr:List Nat}
theorem zvi{ifs:List Expr}{c:B}(h:FT X ifs c){Q:Bool->Hp->Prop}(I:Inv X pins σ H s)(t:tB X.K X.mg c σ H Q) :
   wpAny (model X.prog X.w) X.A (forIn ifs true fun c r=>if r=true then do let ok <-isTrue c X.env (eval c X.env);pure (ForInStep.yield ok)else pure (ForInStep.yield r)) (TP X pins σ Q) X.xe s:=by
 cases h with
 | nil=>
   obtain⟨ρ,ev,S,b,S',hE,hS,hf,k⟩:=t;cases hf;exact wpAny_tests_nil ⟨H,I,k ρ H (Ext.refl _ _) hS⟩
 |one h=>exact wpAny_tests_one (h pins s σ H Q I t)
end
def zay(kvs:List (Int×D))(k:Int):Bool:=kvs.any fun p=>decide (p.1=k)
section
variable {K:zFr}{mg:zMg}{ρ:List Addr}{H:Hp}{S:Sto}
theorem zd5:∀{kvs:List (Int×D)}{vs:List (Key×V)}{k:Int},vs.map (·.1)=kvs.map (fun p=>(Sum.inl p.1:Key))->(ze8 vs (Sum.inl k)).isSome=zay kvs k
 | [],[],_,_=>rfl
 | [],_::_,_,h=>by cases h
 |_::_,[],_,h=>by cases h
 | p::kvs,q::vs,k,h=>by
   have h1:q.1=Sum.inl p.1:=(z2a h).1;have h2:vs.map (·.1)=kvs.map (fun p=>(Sum.inl p.1:Key)):=(z2a h).2;by_cases e:p.1=k
   · rw[zbf (by rw[h1,e])];unfold zay;rw[List.any_cons,z1c e];rfl
   · rw[zax (by rw[h1];exact fun z=>e (z3z z)),zd5 h2];unfold zay;rw[List.any_cons,z1b e];rfl
def zjj:E:=fun _ S=>some (.obj S.length,S++[.dct []])
variable {X:Cx}{a b e o i:Expr}{f g h:E}{pos:Pos}
theorem zeg:FE X (.Dict [] [] pos) zjj :=
 jc znj fun σ H Q h=>by obtain⟨ρ,ev,S,d,S',hE,hS,hf,k⟩:=h;cases hf;intro p hp;refine k _ _ _ (zao hS _ hp) (hS.add hp ⟨[],ql,rfl,RepL.nil⟩) ?_;unfold Rep;refine⟨p,rfl,?_⟩;rw[z1a (by rw[hS.len]<;>exact z07 _),hS.len];simp
def ka(S:Sto)(x y:D):Option D:=match x,y with
 | .int k,.obj a=>(match S[a]? with
   |some (.dct kvs)=>some (.bl (!zay kvs k))
   |_=>none)
 |_,_=>none
def zko:R2:=fun y x H Q=>∃a o,x=.ref a/\DGet H a y o/\Q (.bl (!o.isSome)) H
theorem zk0(hu:X.A.units+1<cLine):OpR X (compareOp .NotIn) zko:=by intro pins s σ H y x u v Q I ry rx h;obtain⟨a,o,rfl,g,q⟩:=h;obtain rfl:v=Value.ref a:=rx;exact zsk hu I g ry fun s3 I3=>⟨.bl (!o.isSome),H,I3,rfl,q⟩
theorem zi5:ze5 K mg zko ka:=by
 intro ρ H S x y dx dy d Q hS rx ry e k;unfold ka at e;split at e
 · rename_i kk a;split at e
   · rename_i kvs hd;cases e;unfold Rep at ry;obtain⟨p,rfl,hp⟩:=ry;obtain⟨vs,m1,m2,m3⟩:=hS.ob a _ p hd hp;have ex:x=kV (Sum.inl kk):=rx;rw[ex];exact⟨p,_,rfl,DGet.k m1,by rw[zd5 m2];exact k _ H (Ext.refl _ _) hS rfl⟩
   · cases e
 · cases e
theorem zir{k:Nat}(hr:Room k X.A)(ha:FE X a f)(hb:FE X b g)(hm:behindInMarks .NotIn b=false:=by rfl):FB X (.Compare a [.NotIn] [b] pos) (bE (e2s ka f g)):=za6 (zk0 (by have:=hr.un;omega)) zi5 ha hb hm
def zdm(o i e:E):C:=fun ev S=>(e ev S).bind fun p=>(o ev p.2).bind fun q=>(i ev q.2).bind fun r=>match q.1,r.1 with
 | .obj a,.int k=>(match r.2[a]? with
   |some (.dct kvs)=>if zay kvs k=false/\kvs.length<sizeLine then some (.nx ev,r.2.set a (.dct (kvs++[(k,p.1)])))else none
   |_=>none)
 |_,_=>none
theorem zr4{k:Nat}{pos':Pos}(hr:Room k X.A)(ho:FE X o f)(hi:FE X i g)(hv:FE X e h)(hs:swapsWith e (some (.Subscript o i pos')) pos.line X.env=pure false:=by rfl) :
   FS X (.Assign [.Subscript o i pos'] e pos) (zdm f g h) :=
 xi (zkt (by have:=hr.un;omega) ho hi hv hs) fun σ H D h=>by
   obtain⟨ρ,ev,S,o,S',hE,hS,hf,k⟩:=h;obtain⟨⟨d,S1⟩,q1,hf⟩:=z8 hf;obtain⟨⟨y,S2⟩,q2,hf⟩:=z8 hf;obtain⟨⟨z,S3⟩,q3,hf⟩:=z8 hf;dsimp only at q1 q2 q3 hf;split at hf
   · rename_i a kk _;split at hf
     · rename_i kvs hd;split at hf
       · rename_i hl;cases hf;refine⟨ρ,ev,S,d,S1,hE,hS,q1,fun v ρ1 H1 E1 hS1 r1=>⟨ρ1,ev,S1,_,S2,hE.mono E1,hS1,q2,fun w ρ2 H2 E2 hS2 r2=>⟨ρ2,ev,S2,_,S3,(hE.mono E1).mono E2,hS2,q3,fun t ρ3 H3 E3 hS3 r3=>?_⟩⟩⟩;unfold Rep at r2;obtain⟨p,rfl,hp⟩:=r2;have hp3:=E3.pre _ _ hp;obtain⟨vs,m1,m2,m3⟩:=hS3.ob a _ p hd hp3;have et:t=kV (Sum.inl kk):=r3;have hn:ze8 vs (Sum.inl kk:Key)=none:=by
           have:=zd5 (k:=kk) m2;rw[hl.1]at this;cases q:ze8 vs (Sum.inl kk:Key) with
           |none=>rfl
           |some _=>rw[q]at this;cases this
         have hlen:vs.length=kvs.length:=by have:=z2f List.length m2;simpa using this
         have e0:=zbc hS3 (.dK (vs++[(Sum.inl kk,v)])) hp3;refine⟨p,_,rfl,by rw[et];exact DPut.k m1 (by rw[hlen];exact hl.2),?_⟩;rw[znb v hn];refine k σ ρ3 _ (((E1.trans E2).trans E3).trans e0) (hS3.set hp3 ⟨_,ql,?_,?_⟩) ((((hE.mono E1).mono E2).mono E3).mono e0)
         · rw[z2h,z2h,m2];rfl
         · rw[z2h,z2h];exact(m3.append (RepL.cons ((r1.mono E2).mono E3) RepL.nil)).mono e0
       · cases hf
     · cases hf
   · cases hf
def zs3(f:E):E:=fun ev S=>(f ev S).bind fun p=>match p.1 with
 | .obj a=>(match p.2[a]? with
   |some (.lst ds)=>(ds[ds.length-1]?).map fun x=>(x,p.2.set a (.lst ds.dropLast))
   |_=>none)
 |_=>none
theorem RepL.dropLast{ds:List D}{vs:List V}(r:RepL K mg ρ H ds vs):RepL K mg ρ H ds.dropLast vs.dropLast:=by rw[List.dropLast_eq_take,List.dropLast_eq_take,<-r.length];exact r.take _
theorem zvo{apos:Pos}(ho:FE X o f)(hbase:attributeBase o "pop" X.env (eval o X.env)=eval o X.env:=by rfl)(hline:(apos.endLine==pos.line)=true:=by rfl) :
   FE X (.Call (.Attribute o "pop" apos) [] [] pos) (zs3 f) :=
 jc (zum PySem.F.plainAttrs_list PySem.F.slot_list_pop PySem.F.type_list_pop zuw ho hbase hline) fun σ H Q h=>by
   obtain⟨ρ,ev,S,d,S',hE,hS,hf,k⟩:=h;obtain⟨⟨x,S1⟩,q1,hf⟩:=z8 hf;cases x with
   | obj a=>
     dsimp only at hf;split at hf
     · rename_i ds hd;obtain⟨y,hy,hf⟩:=zbs hf;cases hf;refine⟨ρ,ev,S,_,S1,hE,hS,q1,fun v ρ1 H1 E1 hS1 r1=>?_⟩;unfold Rep at r1;obtain⟨p,rfl,hp⟩:=r1;obtain⟨us,hu,ru⟩:=hS1.ob a _ p hd hp;obtain⟨w,hw,rw'⟩:=ru.get hy;have e0:=zbc hS1 (.lst us.dropLast) hp;refine⟨.inl ⟨rfl,_,SqL.of hu⟩,p,us,w,rfl,rfl,hu,by rw[<-ru.length];exact hw,?_⟩;exact k w ρ1 _ (E1.trans e0) (hS1.set hp ⟨_,ql,ru.dropLast.mono e0⟩) (rw'.mono e0)
     · cases hf
   |_=>cases hf
def zg9(f g:E):E:=fun ev S=>(f ev S).bind fun p=>(g ev p.2).bind fun q=>match p.1,q.1 with
 | .obj a,.lst bs=>(match q.2[a]? with
   |some (.lst as)=>if as.length+bs.length<=sizeLine then some (.obj q.2.length,q.2++[.lst (as++bs)])else none
   |_=>none)
 |_,_=>none
theorem zsb(ha:FE X a f)(hb:FE X b g):FE X (.BinOp a .Add b pos) (zg9 f g) :=
 jc (zuf op_catL ha hb) fun σ H Q h=>by
   obtain⟨ρ,ev,S,d,S',hE,hS,hf,k⟩:=h;obtain⟨⟨x,S1⟩,q1,hf⟩:=z8 hf;obtain⟨⟨y,S2⟩,q2,hf⟩:=z8 hf;dsimp only at q1 q2 hf;split at hf
   · rename_i a bs _;split at hf
     · rename_i as hd;split at hf
       · rename_i hl;cases hf;refine⟨ρ,ev,S,_,S1,hE,hS,q1,fun v ρ1 H1 E1 hS1 r1=>⟨ρ1,ev,S1,_,S2,hE.mono E1,hS1,q2,fun w ρ2 H2 E2 hS2 r2=>?_⟩⟩;unfold Rep at r1;obtain⟨p,rfl,hp⟩:=r1;have hp2:=E2.pre _ _ hp;obtain⟨us,hu,ru⟩:=hS2.ob a _ p hd hp2;obtain⟨p2,vs,rfl,t2,rb⟩:=r2.refL;refine⟨p,p2,us,vs,rfl,rfl,SqL.of hu,t2.sq,by rw[<-ru.length,<-rb.length];exact hl,fun z hz=>?_⟩;refine k _ _ _ ((E1.trans E2).trans (zao hS2 _ hz)) (hS2.add hz ⟨_,ql,(ru.append rb).mono (zao hS2 _ hz)⟩) ?_;unfold Rep;refine⟨z,rfl,?_⟩;rw[z1a (by rw[hS2.len]<;>exact z07 _),hS2.len];simp
       · cases hf
     · cases hf
   · cases hf
def zdz(S:Sto)(x y:D):Option D:=match x,y with
 | .obj a,.lst bs=>(match S[a]? with
   |some (.lst as)=>if bndL 0 as=true/\bndL 0 bs=true then zno (.lst as) (.lst bs)else none
   |_=>none)
 |x,y=>zno x y
theorem zqm:ze5 K mg (ztx K mg true) zdz:=by
 intro ρ H S x y dx dy d Q hS rx ry e k;unfold zdz at e;split at e
 · rename_i a bs;split at e
   · rename_i as hd;split at e
     · rename_i hb;obtain⟨c,e1,e⟩:=zbs e;subst e;unfold Rep at rx;obtain⟨p,rfl,hp⟩:=rx;obtain⟨us,hu,ru⟩:=hS.ob a _ p hd hp;refine⟨ρ.take 0,.lst as,.lst bs,c,?_,ry.cut (n:=0) (by unfold bnd;exact hb.2),e1,k _ H (Ext.refl _ _) hS rfl⟩;unfold Rep;exact⟨p,us,rfl,.inl ⟨by simp,.inl hu⟩,ru.cut hb.1⟩
     · cases e
   · cases e
 · exact zkb ρ H S x y dx dy d Q hS rx ry e k
theorem zvw{k:Nat}(hr:Room k X.A)(ha:FE X a f)(hb:FE X b g)(hm:behindInMarks .NotEq b=false:=by exact zah _):FB X (.Compare a [.NotEq] [b] pos) (bE (e2s zdz f g)):=za6 (zpe (by have:=hr.un;omega)) zqm ha hb hm
end
def Itd(a:Addr)(o:Obj)(kvs:List (Key×V)):It :=
 ⟨fun i H=>H a=some (.frz o (.dK kvs))/\∃x,(kvs.map fun q=>kV q.1)[i]? = some x,fun i H x H'=>H'=H/\(kvs.map fun q=>kV q.1)[i]? = some x,fun i H=>H a=some (.frz o (.dK kvs))/\kvs.length<=i⟩
theorem zqw{k:Key}{u:Value}(h:zgz k u=true):RelV (kV k) u:=by
 rcases jg h with⟨i,t,rfl,rfl⟩ | ⟨x,t,rfl,rfl⟩
 · exact⟨t,rfl⟩
 · exact⟨t,rfl⟩
theorem zj2{P:Program}{w:World}{K:zFr}{tg:Expr}{a it:Addr}{o:Obj}{kvs:List (Key×V)}{vs:List (Key×Value)}{ep:Nat}(kv:KV kvs vs)(hd:∀h:Heap,h.get? a=some o->h.DictAt (xb P w) a vs ep) :
   Turn P w K tg (Itd a o kvs) [it] it (fun i h=>h.IsKeyIter it a i vs.length ep) where
 mem:=by simp
 obj:=fun i h st b hb=>by
   have e:b=it:=by simpa using hb
   subst e;obtain⟨o,e,c,d⟩:=st;exact⟨o,e,fun v z=>by rw[d]at z;cases z⟩
 keep:=fun i h h' st k=>st.at fun o e=>k it (by simp) o e
 item:=by
   intro X hP hw hK hc i pins s σ H E I hf st hg;subst hP hw hK;obtain⟨g1,x,gx⟩:=hg;obtain⟨f0,f1,f2,f3,f4,f5⟩:=hf it (by simp);have ho:s.heap.get? a=some o:=(show s.heap.get? a=some o/\ObjOk X.prog X.w H s.heap a (.dK kvs)from I.hok a _ g1).1;have hkeys:=kv.keys;have gk:(vs.map (·.1))[i]?.map kV=some x:=by rw[<-hkeys,z1r,Option.map_map];rw[z1r]at gx;exact gx
   cases ev:vs[i]? with
   |none=>rw[z1r,ev]at gk;cases gk
   | some q=>
     rw[z1r,ev]at gk;have gk:kV q.1=x:=z1s gk;refine wpAny_pyNext_dict_item st (hd _ ho) (k:=q.1) (v:=q.2) ev fun key h' hk st' sb=>?_;have I1:Inv X pins σ H { s with heap:=h' }:=I.turned (t':=s.toks) (fun b o hb e=>(sb.2 b hb).trans e) f0 f1 f3 f4 f5;obtain⟨o,e,c,d⟩:=id st';exact⟨key,rfl,zry (s:={ s with heap:=h' }) e c d (by decide) ⟨x,H,I1,gk▸zqw hk,⟨rfl,gx⟩,st',fun b hb=>(hf b hb).1⟩⟩
 done:=by intro X hP hw hK hc i pins s σ H E I hf st hg;subst hP hw hK;obtain⟨g1,gl⟩:=hg;obtain⟨f0,f1,f2,f3,f4,f5⟩:=hf it (by simp);have ho:s.heap.get? a=some o:=(show s.heap.get? a=some o/\ObjOk X.prog X.w H s.heap a (.dK kvs)from I.hok a _ g1).1;have hl:=kv.length;exact wpAny_pyNext_dict_end (I.ok.hd hc) st (hd _ ho) (List.getElem?_eq_none (by omega)) fun h' eb=>⟨rfl,I.turned (t':=s.toks) (fun b o hb e=>eb b o hb e) f0 f1 f3 f4 f5⟩
 self:=fun _ _ _ _ _ st h=>wpAny_pyIter_keyiter st h
section
variable {X:Cx}{tg:Expr}
def zyn(tl:TE):TI:=fun σ H R=>tl σ H fun x H1=>∃a kvs,x=.ref a/\H1 a=some (.dK kvs)/\∀o,R (Itd a o kvs) (upd H1 a (.frz o (.dK kvs)))
theorem zq4{l:Expr}{tl:TE}(hl:PE X l tl):PI X tg l (zyn tl):=by
 intro pins s σ H R I h;refine thn (hl pins s σ H _ I h) fun v s1 ⟨x,H1,I1,r1,q1⟩=>?_;obtain⟨a,kvs,e,hq,q⟩:=q1;subst e;cases r1;obtain⟨hz,hs,vs,kv,hd⟩:=zv7 I1.hok hq;obtain⟨ep,hda⟩:=hd.dictAt;obtain⟨o,es,ho,rest⟩:=id hda;refine wpAny_pyIter_dict hs hda ?_;have I2:Inv X pins σ (upd H1 a (.frz o (.dK kvs))) s1:=zhc (t':=s1.toks) I1 (by rw[hq];trivial) ⟨rfl,fun _ _=>rfl⟩ ⟨o,ho⟩ ⟨ho,hz,hs,vs,kv,hd⟩;refine⟨s1.heap.objs.size,[s1.heap.objs.size],_,_,upd H1 a (.frz o (.dK kvs)),rfl,I2.kept (t':=s1.toks) fun b o e=>z1i _ e,zj2 (it:=s1.heap.objs.size) (ep:=ep) kv (fun h e=>⟨o,es,e,rest⟩),⟨_,z1w _ rfl,rfl,rfl⟩,fun b hb=>?_,q o⟩;have e:b=s1.heap.objs.size:=by simpa using hb
 subst e;exact I2.fpOk (z07 _) (I2.hok.fresh (z07 _))
end
section
variable {K:zFr}{mg:zMg}{ρ:List Addr}{H:Hp}{S:Sto}
theorem zh3:∀{kvD:List (Int×D)}{kvs:List (Key×V)},kvs.map (·.1)=kvD.map (fun p=>(Sum.inl p.1:Key))->RepL K mg ρ H (kvD.map fun p=>D.int p.1) (kvs.map fun q=>kV q.1)
 | [],[],_=>RepL.nil
 | [],_::_,h=>by cases h
 |_::_,[],h=>by cases h
 | p::r,q::t,h=>by refine RepL.cons ?_ (zh3 (z2a h).2);show Rep K mg ρ H (D.int p.1) (kV q.1);rw[show q.1=Sum.inl p.1 from(z2a h).1];exact rfl
end
abbrev R:=Ev->Sto->Option (Str×Sto)
abbrev GR:=List D->Sto->Option (Str×Sto)
end F
namespace F
open PySem L2 PySem.Spec PySem.Calls PyProof.Rows PySem.W
structure Up where
 raised:List Str
 asked:List Str
end F
namespace F
open PySem L2 PySem.Spec PyProof.Rows
def zbb:List (Int×D)->Int->Option D
 | [],_=>none
 |p::r,k=>if p.1=k then some p.2 else zbb r k
section
variable {K:zFr}{mg:zMg}{ρ:List Addr}{H:Hp}{S:Sto}
theorem zd6:∀{kvs:List (Int×D)}{vs:List (Key×V)}{k:Int}{d:D},vs.map (·.1)=kvs.map (fun p=>(Sum.inl p.1:Key))->RepL K mg ρ H (kvs.map (·.2)) (vs.map (·.2))->zbb kvs k=some d->∃v,ze8 vs (Sum.inl k)=some v/\Rep K mg ρ H d v
 | [],_,_,_,_,_,e=>by cases e
 |_::_,[],_,_,h,_,_=>by cases h
 | p::kvs,q::vs,k,d,h,r,e=>by
   have h1:q.1=Sum.inl p.1:=(z2a h).1;have h2:vs.map (·.1)=kvs.map (fun p=>(Sum.inl p.1:Key)):=(z2a h).2;rw[z1g,z1g]at r;unfold RepL at r;obtain⟨v,w,er,r1,r2⟩:=r;obtain⟨rfl,rfl⟩:=z2a er;unfold zbb at e;by_cases z:p.1=k
   · rw[z1t z]at e;cases e;exact⟨q.2,zbf (by rw[h1,z]),r1⟩
   · rw[z10 z]at e;rw[zax (by rw[h1];exact fun y=>z (z3z y))];exact zd6 h2 r2 e
variable {X:Cx}{a b:Expr}{f g:E}{pos:Pos}
def zxv:R2:=fun x y H Q=>∃a v,x=.ref a/\DGet H a y (some v)/\Q v H
end
end F
namespace F
open PySem L2 PySem.Spec PySem.Calls PyProof.Rows PySem.W
theorem zof{c:Addr}{q:Str}(h1 h2:Heap)(p:za4 c q h1)(k:∀o,h1.get? c=some o->h2.get? c=some o):za4 c q h2:=by obtain⟨c',o,vs,t,e,h,r⟩:=p;cases e;exact⟨_,o,vs,t,rfl,k _ h,r⟩
theorem zog{c:Addr}{q:Str}{h:Heap}(p:za4 c q h):∃o,h.get? c=some o:=by obtain⟨c',o,vs,t,e,h,r⟩:=p;cases e;exact⟨_,h⟩
theorem zju{p:Pos}{a b:Int}{cv x:Value}(l:List Value)(h:TriplesOk l):codeAmong p (l++[rawInt a,rawInt b,cv])=some x->codeAmong p l=some x\/x=cv:=by
 fun_induction TriplesOk l with
 | case1=>
   intro e;simp only[List.nil_append,rawInt,codeAmong]at e;split at e
   · exact .inr (z1s e).symm
   · cases e
 | case2 i t j u c rest ih=>
   intro e;simp only[List.cons_append,codeAmong]at e ⊢;split at e
   · rename_i z;rw[z1t z];exact .inl e
   · rename_i z;rw[z10 z];exact ih h e
 |case3=>exact h.elim
section
variable {X:Cx}{pins:zAO}{σ:L2.St}{H:Hp}{s:Shared}
theorem zrs{P c:Addr}{ps more:Array Value}{q:Str}{h':Heap}{tk:Nat}(I:Inv X pins σ H s)(hP:H P=some (.tbl ps))(hx:Heap.ExtBut P s.heap h')(ht:h'.get? P=some (tabObj (ps++more)))(hge:s.heap.objs.size<=c)(hc:za4 c q h') :
   Inv X pins σ (upd (upd H P (.tbl (ps++more))) c (.ext (za4 c q))) { s with heap:=h',toks:=tk }:=by
 have hn:H c=none:=I.hok.fresh hge;have hPc:P≠c:=z1o (z1d (I.hok.lt hP) hge);have neP:∀b,H b=none->b≠P:=fun b n z=>by rw[z,hP]at n;cases n
 have nec:∀b u,H b=some u->b≠c:=fun b u e z=>by rw[z,hn]at e;cases e
 have kp:∀b o,s.heap.get? b=some o->b≠P->h'.get? b=some o:=fun b o e n=>hx b o n e;have keepH:∀b u,H b=some u->(∀ps,u≠.tbl ps)->upd (upd H P (.tbl (ps++more))) c (.ext (za4 c q)) b=some u:=fun b u e n=>by rw[qg (nec b u e),qg (fun z=>by rw[z,hP]at e;cases e;exact n ps rfl)];exact e
 refine I.un ⟨fun b o e n _ _=>kp b o e (neP b n),fun b o e n _ _=>⟨o.slots,kp b o e (neP b n)⟩,fun b o e n _=>?_,fun b o e _=>?_,fun b xs e=>keepH b _ e (fun _ z=>by cases z),fun b o u e=>keepH b _ e (fun _ z=>by cases z),fun b qs e=>?_⟩ fun b u e=>?_
 · have hb:b<s.heap.objs.size:=z1l e;rw[qg (z1o (z1d hb hge)),qg (neP b n)];exact n
 · by_cases z:b=P
   · exact⟨_,z▸ht⟩
   · exact⟨o,kp b o e z⟩
 · by_cases z:b=P
   · subst z;rw[hP]at e;cases e;exact⟨more,by rw[qg hPc,ql]⟩
   · exact⟨#[],by rw[qg (nec b _ e),qg z,e];simp⟩
 · by_cases zc:b=c
   · subst zc;rw[ql]at e;cases e;exact⟨hc,zog hc,fun h1 h2 p k=>zof h1 h2 p k⟩
   · rw[qg zc]at e;by_cases z:b=P
     · subst z;rw[ql]at e;cases e;exact ht
     · rw[qg z]at e;refine(I.hok b u e).stay (fun d o hd w=>?_) (fun d w=>keepH d _ w fun _ y=>by cases y) fun d xs w=>keepH d _ w fun _ y=>by cases y
       refine kp d o w fun y=>?_;rcases hd with rfl | hd
       · exact z y
       · rw[y,hP]at hd;cases hd
end
def zi1(K:Frag)(mg:zMg)(x:Str)(cdv:Value):Prop:=∃(f:Addr) (o:Obj) (fd:FuncData),mg x=some (.ref f)/\K.lookup f=some o/\o.data=.func fd/\fd.code=cdv
def zmt(base:Heap)(mg:zMg):Prop:=∃(bm:Addr) (o:Obj),mg "__builtins__"=some (.ref bm)/\bm≠builtinsNs/\bm≠mainGlobals/\base.get? bm=some o/\o.cls=.type "module"/\o.dict=some builtinsNs/\o.data=.plain
section
variable {X:Cx}{x:Str}{params:Arguments}{body:Expr}{scope:Scope}{pos:Pos}
theorem zm2{K mg ρ H}{S:Sto}(hS:StOk K mg ρ H S){j:Nat}{P c:Addr}{x q:Str}{ps:Array Value}{a b:Int}(hj:S[j]? = some (.tab x q))(hP:ρ[j]? = some P)(hps:H P=some (.tbl ps))(hn:H c=none) :
   Ext ρ H ρ (upd (upd H P (.tbl (ps++#[rawInt a,rawInt b,.ref c]))) c (.ext (za4 c q)))/\StOk K mg ρ (upd (upd H P (.tbl (ps++#[rawInt a,rawInt b,.ref c]))) c (.ext (za4 c q))) S:=by
 have cf:c∉ρ:=hS.fresh hn;have hPc:P≠c:=fun z=>cf (z▸z1m hP);have e0:Ext ρ H ρ (upd (upd H P (.tbl (ps++#[rawInt a,rawInt b,.ref c]))) c (.ext (za4 c q))) :=
   ⟨fun _ _ e=>e,fun d u e n=>by
     rw[qg (a:=c) (fun(z:d=c)=>by rw[z,hn]at e;cases e),qg (a:=P) (fun(z:d=P)=>n (by rw[z];exact z1m hP))];exact e,fun _ z n=>absurd z n,fun d u v _ e=>by
     have hPt:H P=some (.tbl ps):=by first | assumption | exact ‹H P=some (.tbl ps)›
     rw[qg (a:=c) (fun(z:d=c)=>by rw[z,hn]at e;cases e),qg (a:=P) (fun(z:d=P)=>by rw[z,hPt]at e;cases e)];exact e⟩
 refine⟨e0,hS.len,hS.nd,fun i m d e1 e2=>?_⟩;by_cases hi:i=j
 · subst hi;rw[hj]at e1;cases e1;rw[hP]at e2;cases e2;obtain⟨T,ps',h1,h2,h3⟩:=hS.ob i _ P hj hP;rw[hps]at h1;cases h1;refine⟨T,_,by rw[qg hPc,ql],by rw[Array.toList_append];exact TriplesOk_snoc a b _ _ h2,fun pos cv z=>?_⟩;rw[Array.toList_append]at z;rcases zju _ h2 z with y | y
   · obtain⟨c',z1,z2,z3⟩:=h3 pos cv y;exact⟨c',z1,z2,e0.keep _ _ z3 z2⟩
   · exact⟨c,y,cf,ql⟩
 · have q:=hS.ob i m d e1 e2;obtain⟨u,z⟩:=q.some;exact q.mono e0 (by rw[qg (a:=c) (fun(y:d=c)=>by rw[y,hn]at z;cases z),qg (a:=P) (fun(y:d=P)=>hi (zic hS.nd (by rw[e2,y]) hP))])
end
def zml(N n:Nat)(f:E):G:=fun ds S=>if ds.length=n then f (ds.map some++List.replicate (N-ds.length) none) S else none
def zz6(t:LT)(a c:Addr)(pm ct:Value)(H:Hp):Prop:=H a=some (.ext (zw1 t a c pm ct))/\H c=some (.ext (za4 c t.qual))
section
variable {P:Program}{w:World}{K:Frag}{mg:zMg}{base:Heap}{k:Nat}{t:LT}{N ps:List Str}{f:E}
structure LCal (P:Program) (w:World) (K:Frag) (mg:zMg) (base:Heap) (k:Nat) (t:LT) (g:G):Prop where
 ex:∃ps:List Str,(∀(a c:Addr) (pm ct:Value),FnOk P w K mg base CX0 k a (kla_fn "<lambda>" t.qual t.params t.body t.scope [] pm (.ref c) ct) ps (fun vs H Q E=>zz6 t a c pm ct H/\spG K mg g vs H Q E)) /\
   ∀(c:Addr) (pm ct:Value),Binds K (kla_fn "<lambda>" t.qual t.params t.body t.scope [] pm (.ref c) ct) ps []
theorem LCal.mono{j:Nat}{g:G}(c:LCal P w K mg base j t g)(h:j<=k):LCal P w K mg base k t g :=
 let⟨ps,F,b⟩:=c.ex;⟨ps,fun a c pm ct=>(F a c pm ct).mono h,b⟩
end
def yw(ft:Str->Option G)(lt:LT->Option G)(f:E)(a:As):E:=fun ev S=>(f ev S).bind fun p=>match p.1 with
 | .fn x=>(ft x).bind fun g=>(a ev p.2).bind fun q=>g q.1 q.2
 | .lam t=>(lt t).bind fun g=>(a ev p.2).bind fun q=>g q.1 q.2
 |_=>none
section
variable {X:Cx}{k:Nat}{f:E}{a:As}{e:Expr}{es:List Expr}{pos:Pos}
theorem za1{fe:Expr}{ft:Str->Option G}{lt:LT->Option G}(hT:∀x g,ft x=some g->Cal X.prog X.w X.K X.mg X.base k x g)(hL:∀t g,lt t=some g->LCal X.prog X.w X.K X.mg X.base k t g)(hr:Room k X.A)(hf:FE X fe f)(ha:FA X (e::es) a)
   (ht:eval (.Call fe (e::es) [] pos) X.env=(eval fe X.env >>= fun v=>callWith pos v [] (backTo pos (starEach (e::es) X.env)) (backToKw pos (keywordEach [] X.env))):=by rfl)
   (he:starEach (e::es) X.env=(false,eval e X.env)::starEach es X.env:=by exact q0 rfl) (hpl:(backTo pos (starEach es X.env)).any (·.1)=false:=by exact ju rfl) :
   FE X (.Call fe (e::es) [] pos) (yw ft lt f a):=by
 intro pins s σ H Q I h;obtain⟨ρ,ev,S,d,S',hE,hS,hf',kk⟩:=h;obtain⟨⟨y,S1⟩,q1,hf'⟩:=z8 hf';cases y with
 | fn x=>
   refine zn8 (ft:=ft) hT hr hf ha ht he hpl pins s σ H Q I ⟨ρ,ev,S,d,S',hE,hS,?_,kk⟩;unfold zpw;rw[q1];exact hf'
 | lam t=>
   rw[ht];dsimp only at hf';obtain⟨g,hx,hf'⟩:=z8 hf';obtain⟨⟨ds,S2⟩,q2,hf'⟩:=z8 hf';obtain⟨ps,F,hb⟩:=(hL t g hx).ex;refine z1v (thn (hf pins s σ H (fun v H1=>∃ρ1 a0,v=.ref a0/\Ext ρ H ρ1 H1/\StOk X.K X.mg ρ1 H1 S1/\LamAt ρ1 H1 t a0) I ⟨ρ,ev,S,_,S1,hE,hS,q1,fun v ρ1 H1 E1 hS1 r1=>?_⟩) fun u s1 ⟨v,H1,I1,rv,ρ1,a0,ev1,E1,hS1,L1⟩=>?_)
   · unfold Rep at r1;obtain⟨b,rfl,L⟩:=r1;exact⟨ρ1,b,rfl,E1,hS1,L⟩
   · subst ev1;obtain rfl:u=Value.ref a0:=rv;obtain⟨n0,c,pm,ct,nc,hA,hC⟩:=L1;have at_:∀{H':Hp}{s':Shared},Inv X pins σ H' s'->H' a0=some (.ext (zw1 t a0 c pm ct))->FnAt a0 s'.heap:=fun J e=>⟨_,_,_,_,(J.hok a0 _ e).1⟩
     refine callWith_F (at_ I1 hA) (thn (ha pos pins s1 σ H1 (fun vs H2=>(H2 a0=some (.ext (zw1 t a0 c pm ct)))/\(zz6 t a0 c pm ct H2/\spG X.K X.mg g vs H2 Q E0)) I1 ⟨ρ1,ev,S1,ds,S2,hE.mono E1,hS1,q2,fun vs ρ2 H2 E2 hS2 r2=>?_⟩) fun us s2 ⟨vs,H2,I2,r,hA2,q2⟩=>⟨at_ I2 hA2,?_⟩) he hpl
     · have h1:=E2.keep _ _ hA n0;have h2:=E2.keep _ _ hC nc;exact⟨h1,⟨h1,h2⟩,ρ2,ds,S2,d,S',r2,hS2,hf',fun v ρ' H' E' hS' r'=>kk v ρ' H' ((E1.trans E2).trans E') hS' r'⟩
     · exact zfc (ds:=[]) (dvs:=[]) (F a0 c pm ct) hr (hb c pm ct) .nil zgs I2 r (by rw[z1z];exact q2)
 |_=>cases hf'
end
end F
namespace F
open PySem L2 PySem.Spec PyProof.Rows PySem.W
def zp8(tabs:List (Str×Str))(g:G):Prop:=∀ns:List Int,ns.length<=63->∃S,g [.lst (ns.map D.int)] (tabs.map fun p=>MO.tab p.1 p.2)=some (.bl true,S)
def H0(ts:List Addr)(so:Option (Addr×HO)):Hp:=fun b=>if b∈ts then some (.tbl #[])else match so with
 |some (a,o)=>if b=a then some o else none
 |none=>none
theorem zfm{as:List Addr}:∀{K:Frag}{P:Addr},as=K.map (·.1)->P∉as->K.lookup P=none
 | [],_,_,_=>rfl
 | (b,o)::K,P,e,h=>by
   subst e;rw[z1g,z1e,not_or]at h;have hb:(P==b)=false:=by simpa using h.1
   simp only[List.lookup,hb];exact zfm rfl h.2
section
variable {P:Program}{w:World}{K:Frag}{mg mb:zMg}{k:Nat}{fa a:Addr}{fd:FuncData}{x:Str}{sp:Sp}{s₁:Shared}{vs:List Value}{ns:List Int}{ts:List Addr}
theorem zle(KX:K.In s₁.heap)(hns:s₁.heap.Ns mainGlobals mg)(hb:s₁.heap.Ns builtinsNs mb)(hbb:∀x:Str,x≠"__name__"->mb x=bootBuiltins x)(hlim:s₁.heap.NoLimit)(hg:s₁.gens=#[])
   (ha:s₁.heap.get? a=some { cls:=.type "list",data:=.seq vs.toArray }) (hi:IntsAre vs ns) (hl:ns.length<=sizeLine) (hr:Room k callerA)
   (hts:∀Q∈ts,s₁.heap.get? Q=some (tabObj #[])/\K.lookup Q=none/\isCodeTable s₁.heap Q)
   (hbm:zmt s₁.heap mg) (F:∀base:Heap,K.In base->base.Ns mainGlobals mg->zmt base mg->FnOk P w K mg base CX0 k fa fd [x] sp) (hbind:∀(s:Shared) (u:Value),BindsTo s fd ⟨[u],[]⟩ [(x,u)])
   (hsp:∀so:Option (Addr×HO),a∉ts->SqL K (H0 ts so) a (ns.map V.int)->sp [.ref a] (H0 ts so) (fun v _=>v=.bl true) fun _ _ _=>False) :
   codeAny (model P w) callerA (.call (.ref fa) ⟨[.ref a],[]⟩) (fun r s'=>r=.ok (.ret (.bool true))/\OldK s₁.heap s'.heap/\s'.os=s₁.os/\AllBare s'.gens) s₁:=by
 have rv:=ze7 hi;have lenV:=hi.length;have nat:a∉ts:=fun z=>by have e:=(hts a z).1;rw[ha]at e;cases e
 have core:∀so:Option (Addr×HO),(∀b o,so=some (b,o)->b=a/\K.lookup a=none/\o=.frz { cls:=.type "list",data:=.seq vs.toArray } (.lst (ns.map V.int)))->SqL K (H0 ts so) a (ns.map V.int) ->
     codeAny (model P w) callerA (.call (.ref fa) ⟨[.ref a],[]⟩) (fun r s'=>r=.ok (.ret (.bool true))/\OldK s₁.heap s'.heap/\s'.os=s₁.os/\AllBare s'.gens) s₁:=by
   intro so hso hS;have cases3:∀b,H0 ts so b=none\/(b∈ts/\H0 ts so b=some (.tbl #[]))\/(b=a/\K.lookup a=none/\H0 ts so b=some (.frz { cls:=.type "list",data:=.seq vs.toArray } (.lst (ns.map V.int)))):=fun b=>by
     by_cases z:b∈ts
     · exact .inr (.inl ⟨z,z1t z⟩)
     · cases so with
       |none=>exact .inl (z10 z)
       | some p=>
         obtain⟨c,o⟩:=p;obtain⟨h1,h2,h3⟩:=hso c o rfl;by_cases y:b=c
         · refine .inr (.inr ⟨y.trans h1,h2,?_⟩);unfold H0;rw[z10 z];show(if b=c then some o else none)=_;rw[z1t y,h3]
         · refine .inl ?_;unfold H0;rw[z10 z];exact z10 y
   have hok:HOk P w (H0 ts so) s₁.heap:=fun b u e=>by
     rcases cases3 b with q | ⟨q1,q2⟩ | ⟨rfl,_,q2⟩
     · rw[q]at e;cases e
     · rw[q2]at e;cases e;exact(hts b q1).1
     · rw[q2]at e;cases e;exact⟨ha,by rw[z1q];exact hl,vs,_,rv,ha⟩
   have free:∀{b:Addr}{o:Obj}{es:Array DictEntry}{ep:Nat},s₁.heap.get? b=some o->o.data=.dict es ep->H0 ts so b=none:=fun {b o es ep} e d=>by
     rcases cases3 b with q | ⟨q1,_⟩ | ⟨rfl,_,_⟩
     · exact q
     · rw[(hts b q1).1]at e;cases e;cases d
     · rw[ha]at e;cases e;cases d
   have nsK:∀{b:Addr}{m:zMg},s₁.heap.Ns b m->(znw s₁.heap (H0 ts so)).Ns b m:=fun⟨o,es,ep,e,d,r⟩=>⟨o,es,ep,zd9 e (free e d),d,r⟩
   have hKb:K.In (znw s₁.heap (H0 ts so)):=fun b o e=>zd9 (KX b o e) (by
     rcases cases3 b with q | ⟨q1,_⟩ | ⟨rfl,q1,_⟩
     · exact q
     · rw[(hts b q1).2.1]at e;cases e
     · rw[q1]at e;cases e)
   have hM:Mod K mg (znw s₁.heap (H0 ts so)):=⟨hKb,nsK hns,⟨mb,nsK hb,hbb⟩,let⟨mc,h1,h2⟩:=hlim;⟨mc,nsK h1,h2⟩⟩
   have e0:Env0 P w K mg (znw s₁.heap (H0 ts so)) callerA [] s₁ (H0 ts so):=⟨rfl,hM,fun b o e=>zrg e,Nat.le_of_eq (zls _ _),trivial,fun b hb=>absurd (show b∈([]:List Addr)from hb) (by simp),hok,.of_eq hg⟩
   have hB:zmt (znw s₁.heap (H0 ts so)) mg:=by
     obtain⟨bm,ob,b1,b2,b3,b4,b5,b6,b7⟩:=hbm;refine⟨bm,ob,b1,b2,b3,zd9 b4 ?_,b5,b6,b7⟩;rcases cases3 bm with q | ⟨q1,_⟩ | ⟨rfl,_,_⟩
     · exact q
     · rw[(hts bm q1).1]at b4;cases b4;cases b7
     · rw[ha]at b4;cases b4;cases b7
   refine z4c ((F _ hKb (nsK hns) hB).run callerA [] s₁ (H0 ts so) ⟨[.ref a],[]⟩ [.ref a] [.ref a] _ _ hr e0 (hbind s₁ (.ref a)) (.cons rfl .nil) (hsp so nat hS)) fun r s' h=>?_;cases r with
   |error e=>exact False.elim h
   | ok fl=>
     cases fl with
     |next=>exact False.elim h
     |brk=>exact False.elim h
     |cont=>exact False.elim h
     | ret u=>
       obtain⟨v,H',os,bare,un,hok',r',q⟩:=h;obtain rfl:v=.bl true:=q;obtain rfl:u=Value.bool true:=r';refine⟨rfl,⟨fun b o e=>?_,fun b o e=>un.there b o e (by simp)⟩,os,bare⟩;rcases cases3 b with q | ⟨q1,q2⟩ | ⟨_,_,q2⟩
       · exact .inl (un.keep b o e q (fun z=>absurd (show b∈([]:List Addr)from z) (by simp)) (by simp))
       · obtain⟨more,z⟩:=un.tbls b _ q2;have e1:=(hts b q1).1;rw[e]at e1;cases e1;exact .inr (.inl ⟨(hts b q1).2.2,rfl,#[],more,rfl,hok' b _ z⟩)
       · have z:=un.frzs b _ _ q2;obtain⟨e1,_⟩:=hok b _ q2;obtain⟨e2,_⟩:=hok' b _ z;rw[e]at e1;cases e1;exact .inl e2
 cases hk:K.lookup a with
 | some o=>
   have e:=KX a o hk;rw[ha]at e;cases e;exact core none (fun b o z=>by cases z) (.inr ⟨_,vs.toArray,_,hk,rfl,rfl,rfl,by rw[z1h,lenV];exact hl,by simpa using rv⟩)
 | none=>
   refine core (some (a,.frz { cls:=.type "list",data:=.seq vs.toArray } (.lst (ns.map V.int)))) (fun b o z=>by cases z;exact⟨rfl,hk,rfl⟩) (.inl (.inr ⟨{ cls:=.type "list",data:=.seq vs.toArray },?_⟩));unfold H0;rw[z10 nat];exact z1t rfl
end
theorem zjn{K:Frag}{h:Heap}{c Q:Addr}(X:K.In h)(e:codeHdIn K c Q=true):isCodeTable h Q:=by obtain⟨o,vs,_,_,_,_,_,_,_,h1,h2,h3,h4,_⟩:=codeHd_of_K X e;exact⟨c,o,vs,h1,h2,h3,h4⟩
theorem law_walkT{l:OpenLaw}{q:Program}{loose:List Str}{XP:(zMg)->Heap->Prop}{d:DefRec}{K:Params->Frag}{as:List Addr}{e:∀P,as=(K P).map (·.1)}{ts:List Addr}{k:Nat}{g:G}{x:Str}(tabs:List (Str×Str))
   (hn:l.most=some 63) (hdf:d.params.defaults=[]) (hr:Room k callerA) (hts:ts.Nodup) (has:∀Q∈ts,Q∉as) (hlen:ts.length=tabs.length) (hg:zp8 tabs g)
   (F:∀(w:World) (mg:zMg) (fa:Addr) (h:Heap),(K w.params).In h->h.Ns mainGlobals mg->mg d.name=some (.ref fa) ->
     (∀(i:Nat) (p:Str×Str) (Q:Addr),tabs[i]? = some p->ts[i]? = some Q->zsx (K w.params) mg p.1 Q) /\
     ∃fd:FuncData,(∀(s:Shared) (u:Value),BindsTo s fd ⟨[u],[]⟩ [(x,u)])/\∀base:Heap,(K w.params).In base->base.Ns mainGlobals mg->zmt base mg->FnOk l.prog w (K w.params) mg base CX0 k fa fd [x] (spG (K w.params) mg g)) :
   WalkO q loose XP (kmHook K as e ts).says l.row.toRowW d [] (fun f vs=>PySem.call f vs):=by
 refine Att.attach_call hn hdf fun w s₀ s₁ mg mb fa o pm cd doc a vs ns G Y ho hd hcd hmg hobj hints hlen' hg'=>?_;have KX:=km_in_of Y;have TX:=km_tabs_of Y;obtain⟨T,fd,hb,hF⟩:=F w mg fa _ KX G.T.g hmg;have hbm:zmt s₁.heap mg:=by obtain⟨bm,ob,b1,b2,b3,b4,b5,b6⟩:=G.T.bmain;refine⟨bm,ob,b1,b2,fun q=>?_,b3,b4,b5,b6⟩;obtain⟨o,es,ep,e,hd,_⟩:=G.T.g;rw[q,e]at b3;cases b3;rw[hd]at b6;cases b6
 refine zle (k:=k) (fd:=fd) (x:=x) (ts:=ts) (sp:=spG (K w.params) mg g) KX G.T.g G.T.b G.T.builtins G.T.nolimit hg' hobj hints (z1u hlen' (by decide)) hr (fun Q hQ=>⟨TX Q hQ,zfm (e w.params) (has Q hQ),?_⟩) hbm hF hb fun so nat hS=>?_
 · obtain⟨i,hi,ei⟩:=z2k hQ;obtain⟨f,o,fd,c,_,_,_,_,z⟩:=T i (tabs[i]'(by omega)) Q (z08 (by omega)) (by rw[z08 hi,ei]);exact zjn KX z
 · obtain⟨S,hS'⟩:=hg ns hlen';have tb:∀Q∈ts,H0 ts so Q=some (.tbl #[]):=fun Q hQ=>z1t hQ;refine⟨ts,[.lst (ns.map D.int)],tabs.map fun p=>MO.tab p.1 p.2,.bl true,S,?_,⟨by rw[z1q];exact hlen,hts,fun i m b e1 e2=>?_⟩,hS',fun v ρ' H' _ _ r=>by rw[show v=.bl true from r]⟩
   · refine RepL.cons ?_ RepL.nil;unfold Rep;refine⟨a,ns.map V.int,rfl,?_,zh4 ns⟩;rcases hS with hS | hS
     · exact .inl ⟨nat,hS⟩
     · exact .inr hS
   · rw[z1r]at e1;cases hp:tabs[i]? with
     |none=>rw[hp]at e1;cases e1
     | some p=>
       rw[hp]at e1;cases e1;exact⟨T i p b hp e2,#[],tb b (z1m e2),trivial,fun pos cv z=>by cases z⟩
section
variable {P:Program}{w:World}{K:Frag}{mg:zMg}{base:Heap}{x qual:Str}{st:Stmt}{N ps:List Str}{k:Nat}{b:C}{dV:Value}{f:Addr}{fd:FuncData}
theorem FunD.code(F:FunD K x qual st f fd dV){y:Str}(hm:mg y=some (.ref f)):zi1 K mg y fd.code:=by obtain⟨oc,od,kV,doc,pm,an,cdv,ct,osl,rfl,lk,hcd⟩:=F.ex;exact⟨f,_,_,hm,lk,rfl,rfl⟩
end
section
variable {K:Frag}{h:Heap}{mg:zMg} (X:K.In h) (G:h.Ns mainGlobals mg)
include X G
theorem has_tab{x:Str}{st:Stmt}{f c Q:Addr}{oc:Value}{od an:Option Addr}{osl:Array (Option Value)}{dV kV doc pm ct:Value}(a:nsIn K mainGlobals x=some (some (.ref f)))
   (l:K.lookup f=some ⟨oc,od,.func (fnOf x x (zbd st) (xk st) (zj st) dV kV doc pm an (.ref c) ct),osl⟩) (z:codeHdIn K c Q=true):zsx K mg x Q :=
 ⟨f,_,_,c,mg_of X G a,l,rfl,rfl,z⟩
end
end F
namespace F
open PySem L2 PySem.Spec PySem.Calls PyProof.Rows PySem.W
def cxC(P:Program)(w:World)(K:Frag)(mg:zMg)(base:Heap)(N:List Str)(qual:Str)(scope:Scope)(f:Addr)(cd:Value)(cl:zLA)(A:Around)(outer:List Env)(s:Shared)(H H1:Hp)(E:XK):Cx where
 prog:=P
 w:=w
 K:=K
 mg:=mg
 base:=base
 A:=A.deeper (envX qual scope s.heap.objs.size f cd cl)
 N:=N
 s₀:=s
 H₀:=H1
 env:=envX qual scope s.heap.objs.size f cd cl
 outer:=outer
 stack:=envX qual scope s.heap.objs.size f cd cl::outer
 ex:=[]
 calm:=true
 fn:=fun _=>false
 pn:=[]
 xe:=fun e s'=>wpAny (model P w) (A.deeper (envX qual scope s.heap.objs.size f cd cl)) (leaving (envX qual scope s.heap.objs.size f cd cl) e) (fun _ s''=>CX0 outer H s E e s'') (fun e' s''=>CX0 outer H s E e' s'') s'
def zby(H:Hp)(cl:zLA):Hp:=fun b=>if b∈cl.map (·.2)then none else H b
theorem zcl{H:Hp}{cl:zLA}{b:Addr}(h:b∈cl.map (·.2)):zby H cl b=none:=z1t h
theorem xr{H:Hp}{cl:zLA}{b:Addr}(h:b∉cl.map (·.2)):zby H cl b=H b:=z10 h
theorem Cells.at{ρ:List Addr}{H:Hp}:∀{xs:List Str}{us:List V}{cl:zLA},Cells ρ H xs us cl->∀b∈cl.map (·.2),∃o w,H b=some (.frz o (.own 0))/\o.data=.cell (some w)
 | [],[],[],_,b,hb=>by cases hb
 | x::xs,u::us,p::cl,h,b,hb=>by
   rw[z1g]at hb;rcases z1e.mp hb with rfl | hb
   · obtain⟨_,_,⟨o,w,h3,h4,_⟩,_⟩:=h;exact⟨o,w,h3,h4⟩
   · exact Cells.at h.2.2.2 b hb
 | [],[],_::_,h,_,_=>h.elim
 | [],_::_,_,h,_,_=>h.elim
 |_::_,[],_,h,_,_=>h.elim
 |_::_,_::_,[],h,_,_=>h.elim
theorem zru{P:Program}{w:World}{H:Hp}{h:Heap}{cl:zLA}(x:HOk P w H h)(hc:∀b∈cl.map (·.2),∃o,H b=some (.frz o (.own 0))):HOk P w (zby H cl) h:=fun b u e=>by
 by_cases z:b∈cl.map (·.2)
 · rw[zcl z]at e;cases e
 · rw[xr z]at e;refine(x b u e).stay (fun _ _ _ q=>q) (fun d q=>?_) fun d xs q=>?_
   · rw[xr (fun y=>by obtain⟨o,y'⟩:=hc d y;rw[q]at y';cases y')];exact q
   · rw[xr (fun y=>by obtain⟨o,y'⟩:=hc d y;rw[q]at y';cases y')];exact q
theorem yn{H:Hp}{cl:zLA}{b:Addr}(h:H b=none):zby H cl b=none:=by
 unfold zby;split
 · rfl
 · exact h
theorem Cells.names{ρ:List Addr}{H:Hp}:∀{xs:List Str}{us:List V}{cl:zLA},Cells ρ H xs us cl->cl.map (·.1)=xs/\us.length=xs.length
 | [],[],[],_=>⟨rfl,rfl⟩
 | x::xs,u::us,p::cl,h=>by obtain⟨h1,h2⟩:=Cells.names h.2.2.2;exact⟨by rw[z1g,h1,h.1],by rw[List.length_cons,List.length_cons,h2]⟩
 | [],[],_::_,h=>h.elim
 | [],_::_,_,h=>h.elim
 |_::_,[],_,h=>h.elim
 |_::_,_::_,[],h=>h.elim
theorem Cells.get{ρ:List Addr}{H:Hp}:∀{xs:List Str}{us:List V}{cl:zLA},Cells ρ H xs us cl->xs.Nodup->∀(i:Nat) (x:Str) (u:V),xs[i]? = some x->us[i]? = some u->∃b o w,cl.lookup x=some b/\H b=some (.frz o (.own 0))/\o.data=.cell (some w)/\RelV u w
 | x::xs,u::us,p::cl,h,nd,0,y,v,e1,e2=>by cases e1;cases e2;obtain⟨h1,_,⟨o,w,h3,h4,h5⟩,_⟩:=h;exact⟨p.2,o,w,by obtain⟨a,b⟩:=p;subst h1;simp[List.lookup],h3,h4,h5⟩
 | x::xs,u::us,p::cl,h,nd,i+1,y,v,e1,e2=>by
   obtain⟨b,o,w,z1,z2⟩:=Cells.get h.2.2.2 (z2g.mp nd).2 i y v e1 e2;have ne:(y==p.1)=false:=by rw[h.1];refine beq_false_of_ne fun z=>(z2g.mp nd).1 ?_;rw[<-z];exact z1m e1
   refine⟨b,o,w,?_,z2⟩;obtain⟨a,c⟩:=p;simp only[List.lookup,ne];exact z1
 | [],[],[],_,_,_,_,_,e1,_=>by cases e1
 | [],[],_::_,h,_,_,_,_,_,_=>h.elim
 | [],_::_,_,h,_,_,_,_,_,_=>h.elim
 |_::_,[],_,h,_,_,_,_,_,_=>h.elim
 |_::_,_::_,[],h,_,_,_,_,_,_=>h.elim
structure CloScope (ps caps:List Str) (sc:Scope):Prop where
 kind:sc.kind=.function
 co:sc.isCoroutine=false
 gen:sc.isGenerator=false
 nd:(ps++caps).Nodup
 par:∀x∈ps,sc.names.lookup x=some .local
 cap:∀x∈caps,sc.names.lookup x=some .free
 nocell:∀y∈sc.names,y.2≠.cell
 fre:∀y∈sc.names,y.2=.free->y.1∈caps
theorem zdn:∀{ps:List Str}{us:List Value}{i:Nat}{x:Str}{u:Value},ps.Nodup->ps[i]? = some x->us[i]? = some u->(ps.zip us).reverse.lookup x=some u
 | [],_,_,_,_,_,e,_=>by cases e
 |p::ps,[],i,x,u,_,_,e=>by cases e
 | p::ps,w::us,i,x,u,nd,e1,e2=>by
   rw[List.zip_cons_cons,List.reverse_cons,List.lookup_append];cases i with
   | zero=>
     cases e1;cases e2;have:(ps.zip us).reverse.lookup p=none:=by rw[List.lookup_eq_none_iff];intro q hq;have:=(z29 (a:=q.1) (b:=q.2) (z3c.mp hq)).1;simpa using fun(z:p=q.1)=>(z2g.mp nd).1 (z▸this)
     rw[this];simp[List.lookup]
   | succ i=>
     rw[zdn (z2g.mp nd).2 e1 e2];rfl
theorem zje{P:Program}{w:World}{K:Frag}{mg:zMg}{base:Heap}{ps caps:List Str}{qual:Str}{scope:Scope}{f:Addr}{cd:Value}{cl:zLA}{A:Around}{outer:List Env}{s:Shared}{H:Hp}{E:XK}{us:List Value}{vs cs:List V}{ρ:List Addr}{h':Heap}{tk:Nat}
   (S:CloScope ps caps scope) (hd:A.handled=none) (e0:Env0 P w K mg base A outer s H) (hl:vs.length=ps.length) (r:Vals vs us) (hc:Cells ρ H caps cs cl) (hcn:(cl.map (·.2)).Nodup)
   (hns:h'.Ns s.heap.objs.size (fun x=>(ps.zip us).reverse.lookup x)) (hk:∀b o,s.heap.get? b=some o->h'.get? b=some o) :
   Inv (cxC P w K mg base (ps++caps) qual scope f cd cl A outer s H (zby H cl) E) [] ((vs++cs).map some) (zby H cl) { s with heap:=h',toks:=tk }:=by
 have noA:∀b:Addr,b∉(cxC P w K mg base (ps++caps) qual scope f cd cl A outer s H (zby H cl) E).ex:=fun b z=>absurd (show b∈([]:List Addr)from z) (by simp);have hnm:=hc.names;have mem:∀{x:Str}{c:Addr},cl.lookup x=some c->(x,c)∈cl:=fun h=>mem_of_lookup_some h;have hcf:∀b∈cl.map (·.2),∃o,H b=some (.frz o (.own 0)):=fun b hb=>let⟨o,_,h1,_⟩:=hc.at b hb;⟨o,h1⟩;refine⟨⟨e0.mod,S.kind,rfl,rfl,z07 _,fun y z c h1 h2=>?_,fun y hy=>?_,fun y c h _=>(by cases h),fun _=>hd,Around.frames_deeper e0.frames,.inr ⟨rfl,rfl⟩,fun b z=>absurd z (noA b),fun b o e=>⟨(e0.bs b o e).1,yn (e0.bs b o e).2⟩,e0.bsz,fun b _ _=>noA b,fun b z=>absurd z (noA b),e0.funs,fun b hb=>yn (e0.frf b hb)⟩,
   rfl,e0.bare,Un.kept hk,⟨_,hns,fun i y v h1 h2 h3=>?_⟩,fun y c h=>?_,yn (e0.hok.fresh (z07 _)),fun y c h=>zcl (z21 (mem h)),fun p hp=>absurd (show p∈([]:zAO)from hp) (by simp),(zru e0.hok hcf).kept hk,?_⟩
 · have m1:=mem h1;have m2:=mem h2;obtain⟨i,hi,ei⟩:=z2k m1;obtain⟨j,hj,ej⟩:=z2k m2;have:i=j:=(z4a (i:=i) (j:=j) (h₀:=by simpa using hi) (h₁:=by simpa using hj) hcn).mp (by simp[ei,ej]);subst this;rw[ei]at ej;exact z2f Prod.fst ej
 · have hy:scope.names.lookup y=some .cell\/scope.names.lookup y=some .free:=hy;rcases hy with hy | hy
   · exact absurd rfl (S.nocell _ (z2j hy))
   · have hm:y∈caps:=S.fre _ (z2j hy) rfl;obtain⟨i,hi,ei⟩:=z2k hm;obtain⟨b,o,w,z,_⟩:=hc.get ((z2q.mp S.nd).2.1) i y (cs[i]'(by omega)) (by rw[z08 hi,ei]) (z08 _);exact⟨b,z⟩
 · rw[z1r]at h2;have h1:(ps++caps)[i]? = some y:=h1;by_cases hi:i<ps.length
   · rw[z1k hi]at h1;rw[z1k (by omega)]at h2;cases hv:vs[i]? with
     |none=>rw[hv]at h2;cases h2
     | some a=>
       rw[hv]at h2;cases h2;obtain⟨u,hu,ru⟩:=r.get hv;exact⟨u,ru,.inl ⟨S.par y (z1m h1),zdn (z2q.mp S.nd).1 h1 hu⟩⟩
   · rw[z1a (by omega)]at h1;rw[z1a (by omega),hl]at h2;cases hv:cs[i-ps.length]? with
     |none=>rw[hv]at h2;cases h2
     | some a=>
       rw[hv]at h2;cases h2;obtain⟨b,o,w,z1,z2,z3,z4⟩:=hc.get (z2q.mp S.nd).2.1 _ y _ h1 hv;exact⟨w,z4,.inr ⟨.inr (S.cap y (z1m h1)),b,z1,o,hk _ _ (e0.hok b _ z2).1,z3⟩⟩
 · obtain⟨o,w,z2,z3⟩:=hc.at c (z21 (mem h));exact⟨some w,o,hk _ _ (e0.hok c _ z2).1,z3⟩
 · show((vs++cs).map some).length=(ps++caps).length;rw[z1q,z03,z03,hl,hnm.2]
def onC(H H0:Hp)(cl:zLA):Hp:=fun b=>if b∈cl.map (·.2)then H0 b else H b
theorem zfg{H H0:Hp}{cl:zLA}{b:Addr}(h:b∈cl.map (·.2)):onC H H0 cl b=H0 b:=z1t h
theorem jo{H H0:Hp}{cl:zLA}{b:Addr}(h:b∉cl.map (·.2)):onC H H0 cl b=H b:=z10 h
theorem zxd{fs:List Addr}{H H':Hp}{h h':Heap}{cl:zLA}(u:Un fs [] (zby H cl) H' h h')(hc:∀b∈cl.map (·.2),∃o,H b=some (.frz o (.own 0))):Un fs [] H (onC H' H cl) h h':=by
 have out:∀b,H b=none->b∉cl.map (·.2):=fun b n z=>by obtain⟨o,y⟩:=hc b z;rw[n]at y;cases y
 refine⟨fun b o e n hb hx=>u.keep b o e (yn n) hb hx,fun b o e n hb hx=>u.slot b o e (yn n) hb hx,fun b o e n hx=>?_,u.there,fun b xs e=>?_,fun b o v e=>?_,fun b ps e=>?_⟩
 · rw[jo (out b n)];exact u.free b o e (yn n) hx
 · have z:b∉cl.map (·.2):=fun z=>by obtain⟨o,y⟩:=hc b z;rw[e]at y;cases y
   rw[jo z];exact u.tups b xs (by rw[xr z];exact e)
 · by_cases z:b∈cl.map (·.2)
   · rw[zfg z];exact e
   · rw[jo z];exact u.frzs b o v (by rw[xr z];exact e)
 · have z:b∉cl.map (·.2):=fun z=>by obtain⟨o,y⟩:=hc b z;rw[e]at y;cases y
   obtain⟨more,q⟩:=u.tbls b ps (by rw[xr z];exact e);exact⟨more,by rw[jo z];exact q⟩
theorem zve{P:Program}{w:World}{fs:List Addr}{H H':Hp}{h h':Heap}{cl:zLA}(u:Un fs [] (zby H cl) H' h h')(x0:HOk P w H h)(x:HOk P w H' h')(hc:∀b∈cl.map (·.2),(∃o,H b=some (.frz o (.own 0)))/\b∉fs):HOk P w (onC H' H cl) h':=fun b v e=>by
 have nn:∀d∈cl.map (·.2),H' d=none:=fun d hd=>by obtain⟨⟨o,z⟩,_⟩:=hc d hd;exact u.free d o (x0 d _ z).1 (zcl hd) (by simp)
 by_cases z:b∈cl.map (·.2)
 · rw[zfg z]at e;obtain⟨⟨o,y⟩,nf⟩:=hc b z;rw[y]at e;cases e;have:=u.keep b o (x0 b _ y).1 (zcl z) nf (by simp);exact⟨this,⟨o,this⟩⟩
 · rw[jo z]at e;refine(x b v e).stay (fun _ _ _ q=>q) (fun d q=>?_) fun d xs q=>?_
   · rw[jo (fun y=>by rw[nn d y]at q;cases q)];exact q
   · rw[jo (fun y=>by rw[nn d y]at q;cases q)];exact q
mutual
def noC:D->Bool
 | .tup ds=>noCL ds
 | .lst ds=>noCL ds
 | .clo _ _=>false
 |_=>true
def noCL:List D->Bool
 | []=>true
 |d::ds=>noC d&&noCL ds
end
def zrk:MO->Bool
 | .lst ds=>noCL ds
 | .ins _ fs=>noCL (fs.map (·.2))
 | .dct kvs=>noCL (kvs.map (·.2))
 | .fdc kvs=>noCL (kvs.map (·.2))
 | .exc _=>true
 | .tab _ _=>true
def zmv(S:Sto):Bool:=S.all zrk
section
variable {K:zFr}{mg:zMg}{ρ ρ':List Addr}{H H':Hp}{S S1:Sto}{cl:zLA}
def CellsIn(H:Hp)(cl:zLA):Prop:=∀b∈cl.map (·.2),∃o,H b=some (.frz o (.own 0))
theorem CellsIn.out(hc:CellsIn H cl){b:Addr}{u:HO}(h:H b=some u)(n:∀o,u≠.frz o (.own 0)):zby H cl b=some u:=by rw[xr (fun z=>by obtain⟨o,y⟩:=hc b z;rw[h]at y;exact n o (z1s y))];exact h
theorem TupAt.off{p:Addr}{vs:List V}(hc:CellsIn H cl)(h:TupAt K ρ H p vs):TupAt K ρ (zby H cl) p vs:=by
 rcases h with⟨n,h | ⟨o,h⟩⟩ | h
 · exact .inl ⟨n,.inl (hc.out h fun _ z=>by cases z)⟩
 · exact .inl ⟨n,.inr ⟨o,hc.out h fun _ z=>by cases z⟩⟩
 · exact .inr h
theorem LstAt.off{p:Addr}{vs:List V}(hc:CellsIn H cl)(h:LstAt K ρ H p vs):LstAt K ρ (zby H cl) p vs:=by
 rcases h with⟨n,h | ⟨o,h⟩⟩ | h
 · exact .inl ⟨n,.inl (hc.out h fun _ z=>by cases z)⟩
 · exact .inl ⟨n,.inr ⟨o,hc.out h fun _ z=>by cases z⟩⟩
 · exact .inr h
mutual
theorem Rep.off(hc:CellsIn H cl):∀{d:D}{v:V},noC d=true->Rep K mg ρ H d v->Rep K mg ρ (zby H cl) d v
 | .non,_,_,h=>h
 | .bl _,_,_,h=>h
 | .int _,_,_,h=>h
 | .str _,_,_,h=>h
 | .fn _,_,_,h=>h
 | .ty _,_,_,h=>h
 | .tup ds,_,hb,h=>by unfold Rep at h ⊢;unfold noC at hb;obtain⟨p,vs,e1,t,r⟩:=h;exact⟨p,vs,e1,t.off hc,RepL.off hc hb r⟩
 | .lst ds,_,hb,h=>by unfold Rep at h ⊢;unfold noC at hb;obtain⟨p,vs,e1,t,r⟩:=h;exact⟨p,vs,e1,t.off hc,RepL.off hc hb r⟩
 | .obj i,_,hb,h=>by unfold Rep at h ⊢;exact h
 | .lam t,_,_,h=>by unfold Rep at h ⊢;obtain⟨a,e1,n1,c,pm,ct,n2,h1,h2⟩:=h;exact⟨a,e1,n1,c,pm,ct,n2,hc.out h1 (fun _ z=>by cases z),hc.out h2 (fun _ z=>by cases z)⟩
 | .clo t vs,_,hb,h=>by unfold noC at hb;cases hb
theorem RepL.off(hc:CellsIn H cl):∀{ds:List D}{vs:List V},noCL ds=true->RepL K mg ρ H ds vs->RepL K mg ρ (zby H cl) ds vs
 | [],_,_,h=>h
 | d::ds,_,hb,h=>by unfold RepL at h ⊢;unfold noCL at hb;obtain⟨v,r,e,h1,h2⟩:=h;obtain⟨b1,b2⟩:=z3x.mp hb;exact⟨v,r,e,Rep.off hc b1 h1,RepL.off hc b2 h2⟩
end
theorem MOk.off{a:Addr}{m:MO}(hc:CellsIn H cl)(hb:zrk m=true)(h:MOk K mg ρ H a m):MOk K mg ρ (zby H cl) a m:=by
 cases m with
 |lst ds=>obtain⟨vs,h1,h2⟩:=h;exact⟨vs,hc.out h1 (fun _ z=>by cases z),h2.off hc hb⟩
 |ins c fs=>obtain⟨C,dx,vs,h0,h1,h2,h3⟩:=h;exact⟨C,dx,vs,h0,hc.out h1 (fun _ z=>by cases z),h2,h3.off hc hb⟩
 |dct kvs=>obtain⟨vs,h1,h2,h3⟩:=h;exact⟨vs,hc.out h1 (fun _ z=>by cases z),h2,h3.off hc hb⟩
 |fdc kvs=>obtain⟨o,vs,h1,h2,h3⟩:=h;exact⟨o,vs,hc.out h1 (fun _ z=>by cases z),h2,h3.off hc hb⟩
 |exc c=>obtain⟨C,h1,h2⟩:=h;exact⟨C,h1,hc.out h2 (fun _ z=>by cases z)⟩
 |tab x q=>obtain⟨h0,ps,h1,h2,h3⟩:=h;exact⟨h0,ps,hc.out h1 (fun _ z=>by cases z),h2,fun pos cv z=>let⟨c,z1,z2,z3⟩:=h3 pos cv z;⟨c,z1,z2,hc.out z3 (fun _ z=>by cases z)⟩⟩
theorem StOk.off(hS:StOk K mg ρ H S)(hc:CellsIn H cl)(hb:zmv S=true):StOk K mg ρ (zby H cl) S :=
 ⟨hS.len,hS.nd,fun i m a e1 e2=>(hS.ob i m a e1 e2).off hc (z12.mp hb m (z1m e1))⟩
theorem Ext.on(e:Ext ρ (zby H cl) ρ' H')(hS:StOk K mg ρ' H' S1)(nn:∀b∈cl.map (·.2),H' b=none)(no:∀b∈cl.map (·.2),b∉ρ):Ext ρ H ρ' (onC H' H cl):=by
 refine⟨e.pre,fun b o h n=>?_,fun b h n=>?_,fun b u v hb h=>by
   have z:b∉cl.map (·.2):=fun z=>no b z hb;rw[jo z];exact e.frz b u v hb (by rw[xr z];exact h)⟩
 · by_cases z:b∈cl.map (·.2)
   · rw[zfg z];exact h
   · rw[jo z];exact e.keep b o (by rw[xr z];exact h) n
 · by_cases z:b∈cl.map (·.2)
   · obtain⟨o,y⟩:=hS.mem h;rw[nn b z]at y;cases y
   · rw[<-xr (H:=H) z];exact e.new b h n
theorem zpr(nn:∀b∈cl.map (·.2),H' b=none):Ext ρ' H' ρ' (onC H' H cl) :=
 ⟨fun _ _ e=>e,fun b o h n=>by
   rw[jo (fun z=>by rw[nn b z]at h;cases h)];exact h,fun _ z n=>absurd z n,fun b u v _ h=>by
   rw[jo (fun z=>by rw[nn b z]at h;cases h)];exact h⟩
theorem StOk.on(hS:StOk K mg ρ' H' S1)(nn:∀b∈cl.map (·.2),H' b=none):StOk K mg ρ' (onC H' H cl) S1 :=
 ⟨hS.len,hS.nd,fun i m a e1 e2=>by
   have q:=hS.ob i m a e1 e2;obtain⟨u,z⟩:=q.some;exact q.mono (zpr nn) (jo (fun y=>by rw[nn a y]at z;cases z))⟩
theorem Cells.out:∀{xs:List Str}{us:List V}{cl:zLA},Cells ρ H xs us cl->∀b∈cl.map (·.2),b∉ρ
 | [],[],[],_,b,hb=>by cases hb
 | x::xs,u::us,p::cl,h,b,hb=>by
   rw[z1g]at hb;rcases z1e.mp hb with rfl | hb
   · exact h.2.1
   · exact Cells.out h.2.2.2 b hb
 | [],[],_::_,h,_,_=>h.elim
 | [],_::_,_,h,_,_=>h.elim
 |_::_,[],_,h,_,_=>h.elim
 |_::_,_::_,[],h,_,_=>h.elim
theorem Cells.cin{xs:List Str}{us:List V}(h:Cells ρ H xs us cl):CellsIn H cl:=fun b hb=>let⟨o,_,h1,_⟩:=h.at b hb;⟨o,h1⟩
end
def isI:D->Bool
 | .int _=>true
 |_=>false
def zy5:D->Bool
 | .clo _ vs=>vs.all isI
 |_=>false
def zfq(kv:List D):Bool:=noCL kv||kv.all zy5
section
variable {K:zFr}{mg:zMg}{ρ:List Addr}{H:Hp}{cl:zLA}
def zzg(H:Hp)(cl:zLA):Prop:=∀b∈cl.map (·.2),∃o a,H b=some (.frz o (.own 0))/\o.data=.cell (some (.ref a))
theorem Cells.refs:∀{xs:List Str}{us:List V}{cl:zLA}{kv:List D},Cells ρ H xs us cl->RepL K mg ρ H kv us->kv.all zy5=true->zzg H cl
 | [],[],[],_,_,_,_=>fun b hb=>by cases hb
 |x::xs,u::us,p::cl,[],_,r,_=>by unfold RepL at r;cases r
 | x::xs,u::us,p::cl,d::kv,h,r,q=>fun b hb=>by
   unfold RepL at r;obtain⟨v,r',e,r1,r2⟩:=r;cases e;rw[List.all_cons,z15]at q;rw[z1g]at hb;obtain⟨_,_,⟨o,w,h3,h4,h5⟩,h6⟩:=h;rcases z1e.mp hb with rfl | hb
   · cases d with
     | clo t vs=>
       unfold Rep at r1;obtain⟨a,_,rfl,_⟩:=r1;obtain rfl:w=Value.ref a:=h5;exact⟨o,a,h3,h4⟩
     |_=>cases q.1
   · exact Cells.refs h6 r2 q.2 b hb
 | [],[],_::_,_,h,_,_=>h.elim
 | [],_::_,_,_,h,_,_=>h.elim
 |_::_,[],_,_,h,_,_=>h.elim
 |_::_,_::_,[],_,h,_,_=>h.elim
theorem Cells.off1(hr:zzg H cl):∀{xs:List Str}{us:List V}{c1:zLA}{vs:List D},Cells ρ H xs us c1->RepL K mg ρ H vs us->vs.all isI=true->Cells ρ (zby H cl) xs us c1
 | [],[],[],_,_,_,_=>trivial
 |x::xs,u::us,p::c1,[],_,r,_=>by unfold RepL at r;cases r
 | x::xs,u::us,p::c1,d::vs,h,r,q=>by
   unfold RepL at r;obtain⟨v,r',e,r1,r2⟩:=r;cases e;rw[List.all_cons,z15]at q;obtain⟨h1,h2,⟨o,w,h3,h4,h5⟩,h6⟩:=h;refine⟨h1,h2,⟨o,w,?_,h4,h5⟩,Cells.off1 hr h6 r2 q.2⟩;rw[xr fun z=>?_]
   · exact h3
   · obtain⟨o',a,y1,y2⟩:=hr _ z;rw[h3]at y1;cases y1;rw[h4]at y2;cases y2;cases d with
     | int i=>
       unfold Rep at r1;subst r1;obtain⟨_,h5⟩:=h5;cases h5
     |_=>cases q.1
 | [],[],_::_,_,h,_,_=>h.elim
 | [],_::_,_,_,h,_,_=>h.elim
 |_::_,[],_,_,h,_,_=>h.elim
 |_::_,_::_,[],_,h,_,_=>h.elim
theorem zid:∀{vs:List D},vs.all isI=true->noCL vs=true
 | [],_=>rfl
 | d::vs,h=>by
   rw[List.all_cons,z15]at h;unfold noCL;rw[zid h.2,z38];cases d with
   |int i=>rfl
   |_=>cases h.1
theorem RepL.off1(hc:CellsIn H cl)(hr:zzg H cl):∀{kv:List D}{us:List V},kv.all zy5=true->RepL K mg ρ H kv us->RepL K mg ρ (zby H cl) kv us
 | [],_,_,h=>h
 | d::kv,_,q,h=>by
   unfold RepL at h ⊢;rw[List.all_cons,z15]at q;obtain⟨v,r,e,h1,h2⟩:=h;refine⟨v,r,e,?_,RepL.off1 hc hr q.2 h2⟩;cases d with
   | clo t vs=>
     unfold Rep at h1 ⊢;obtain⟨a,us,e1,⟨n,c,pm,ct,c1,nc,z1,z2,z3,z4⟩,rk⟩:=h1;exact⟨a,us,e1,⟨n,c,pm,ct,c1,nc,hc.out z1 (fun _ z=>by cases z),hc.out z2 (fun _ z=>by cases z),z3,z4.off1 hr rk q.1⟩,rk.off hc (zid q.1)⟩
   |_=>cases q.1
theorem znt{xs:List Str}{us:List V}{kv:List D}(h:Cells ρ H xs us cl)(r:RepL K mg ρ H kv us)(q:zfq kv=true):RepL K mg ρ (zby H cl) kv us:=by
 unfold zfq at q;rcases Bool.or_eq_true_iff.mp q with q | q
 · exact r.off h.cin q
 · exact r.off1 h.cin (h.refs r q) q
end
def zm6(K:zFr)(mg:zMg)(t:LT)(a c:Addr)(pm ct:Value)(cl:zLA)(g:G):Sp:=fun vs H Q _=>∃ρ ds S d S' us kv,RepL K mg ρ H ds vs/\StOk K mg ρ H S/\H a=some (.ext (zoi t cl a c pm ct))/\H c=some (.ext (za4 c t.qual))/\(cl.map (·.2)).Nodup/\Cells ρ H t.caps us cl/\RepL K mg ρ H kv us /\
 (noCL ds&&zfq kv&&zmv S)=true/\g (ds++kv) S=some (d,S')/\ds.length=t.params.args.length/\∀v ρ' H',Ext ρ H ρ' H'->StOk K mg ρ' H' S'->Rep K mg ρ' H' d v->Q v H'
section
variable {P:Program}{w:World}{K:Frag}{mg:zMg}{base:Heap}{k:Nat}{t:LT}{ps:List Str}{f:E}
theorem zwd(S:CloScope ps t.caps t.scope)(hpl:ps.length=t.params.args.length)(a c:Addr)(pm ct:Value)(cl:zLA)
   (hbody:∀(A:Around) (outer:List Env) (s:Shared) (H H1:Hp) (E:XK),Room k (A.deeper (envX t.qual t.scope s.heap.objs.size a (.ref c) cl))->FE (cxC P w K mg base (ps++t.caps) t.qual t.scope a (.ref c) cl A outer s H H1 E).nox t.body f) :
   FnOk P w K mg base CX0 (k+1) a (kla_fn "<lambda>" t.qual t.params t.body t.scope cl pm (.ref c) ct) ps (zm6 K mg t a c pm ct cl (zml (ps++t.caps).length (ps++t.caps).length f)):=by
 have len:∀vs H Q E,zm6 K mg t a c pm ct cl (zml (ps++t.caps).length (ps++t.caps).length f) vs H Q E->vs.length=ps.length:=fun vs H Q E h=>by obtain⟨ρ,ds,S,d,S',us,kv,r,_,_,_,_,_,_,_,_,hl,_⟩:=h;rw[<-r.length,hl,hpl]
 refine⟨len,fun A outer s H args us vs Q E hr e0 hb r hsp=>?_⟩;have hl:=len _ _ _ _ hsp;obtain⟨ρ,ds,S0,d,S',cs,kv,rr,hS,hA,hC,hnd,hcs,rk,hno,hf,hdl,kk⟩:=hsp;have lim:s.heap.NoLimit:=e0.mod.nolimit.keeps fun b o e=>(e0.bs b o e).1;have ho:s.heap.get? a=some (kla_obj "<lambda>" t.qual t.params t.body t.scope cl pm c ct):=(e0.hok a _ hA).1;have hcd:s.heap.CodeRec (.ref c) t.qual:=(e0.hok c _ hC).1;have hloc:∀y∈ps.zip us,t.scope.names.lookup y.1=some .local:=fun⟨n,v⟩ hy=>S.par n (z29 hy).1;refine kla_callFunE hr.depth ho rfl S.co S.gen rfl hcd (hb _ _ _ _ ?_);refine wpAny_newFunctionEnv S.nocell hloc (fun h₁ hns hsb=>⟨lim.fresh _ hsb,?_⟩) S.kind;show codeAny _ _ (.expr t.body (envX t.qual t.scope s.heap.objs.size a (.ref c) cl)) _ _;have hk₁:∀b o,s.heap.get? b=some o->h₁.get? b=some o:=fun b o e=>hsb.extBut b o (z1o (z1l e)) (z1i _ e);refine kla_codeExpr ?_;have I:=zje (qual:=t.qual) (f:=a) (cd:=.ref c) (E:=E) (tk:=s.toks+(ps.zip us).length) S hr.hd e0 hl r hcs hnd hns hk₁;have cin:=hcs.cin;rw[z15,z15]at hno;obtain⟨⟨n1,n2⟩,n3⟩:=hno;unfold zml at hf;split at hf
 · rename_i hlen;have hpe:=(hbody A outer s H (zby H cl) E (hr.deeper _)).nox;have rs:RepL K mg ρ (zby H cl) (ds++kv) (vs++cs):=(rr.off cin n1).append (znt hcs rk n2);have ev:EnvR K mg ρ (zby H cl) ((ds++kv).map some) ((vs++cs).map some):=by
     refine⟨by rw[z1q,z1q,rs.length],fun i x q=>?_⟩;rw[z1r]at q ⊢;cases hx:(ds++kv)[i]? with
     |none=>rw[hx]at q;cases q
     | some y=>
       rw[hx]at q;cases q;obtain⟨v,e1,r1⟩:=rs.get hx;exact⟨v,by rw[e1];rfl,r1⟩
   rw[hlen,z3f,List.replicate_zero,z1z]at hf;have hb2:∀b∈cl.map (·.2),(∃o,H b=some (.frz o (.own 0)))/\b∉frs outer:=fun b hb=>⟨cin b hb,fun z=>by
     obtain⟨o,y⟩:=cin b hb;rw[e0.frf b z]at y;cases y⟩
   refine z24 (hpe [] _ ((vs++cs).map some) (zby H cl) (fun v H'=>(∀b∈cl.map (·.2),H' b=none)->Q v (onC H' H cl)) I ⟨ρ,_,S0,d,S',ev,hS.off cin n3,hf,fun v ρ' H' E' hS' r' nn=>?_⟩) (fun v s' hs=>?_) fun e s' hs=>hs
   · exact kk v ρ' _ (E'.on hS' nn hcs.out) (hS'.on nn) (r'.mono (zpr nn))
   · obtain⟨v',H',J,rv,q⟩:=hs;have un:Un (frs outer) [] (zby H cl) H' s.heap s'.heap:=J.base;have nn:∀b∈cl.map (·.2),H' b=none:=fun b hb=>by obtain⟨⟨o,z⟩,_⟩:=hb2 b hb;exact un.free b o (e0.hok b _ z).1 (zcl hb) (by simp)
     exact⟨v',onC H' H cl,J.os,J.bare,zxd un cin,zve un e0.hok J.hok hb2,rv,q nn⟩
 · cases hf
structure CCal (P:Program) (w:World) (K:Frag) (mg:zMg) (base:Heap) (k:Nat) (t:LT) (g:G):Prop where
 ex:∃ps:List Str,(∀(a c:Addr) (pm ct:Value) (cl:zLA),FnOk P w K mg base CX0 k a (kla_fn "<lambda>" t.qual t.params t.body t.scope cl pm (.ref c) ct) ps (zm6 K mg t a c pm ct cl g)) /\
   ∀(c:Addr) (pm ct:Value) (cl:zLA),Binds K (kla_fn "<lambda>" t.qual t.params t.body t.scope cl pm (.ref c) ct) ps []
theorem CCal.mono{j:Nat}{g:G}(c:CCal P w K mg base j t g)(h:j<=k):CCal P w K mg base k t g :=
 let⟨ps,F,b⟩:=c.ex;⟨ps,fun a c pm ct cl=>(F a c pm ct cl).mono h,b⟩
theorem CCal.of(S:CloScope ps t.caps t.scope)(hpl:ps.length=t.params.args.length)(hb:∀(c:Addr) (pm ct:Value) (cl:zLA) (us:List Value),us.length=ps.length->bindArgs (kla_fn "<lambda>" t.qual t.params t.body t.scope cl pm (.ref c) ct) ⟨us,[]⟩=pure (ps.zip us))
   (hbody:∀(a c:Addr) (cl:zLA) (A:Around) (outer:List Env) (s:Shared) (H H1:Hp) (E:XK),Room k (A.deeper (envX t.qual t.scope s.heap.objs.size a (.ref c) cl))->FE (cxC P w K mg base (ps++t.caps) t.qual t.scope a (.ref c) cl A outer s H H1 E).nox t.body f) :
   CCal P w K mg base (k+1) t (zml (ps++t.caps).length (ps++t.caps).length f) :=
 ⟨ps,fun a c pm ct cl=>zwd S hpl a c pm ct cl (hbody a c cl),fun c pm ct cl=>.all (hb c pm ct cl)⟩
end
def zaq(ft:Str->Option G)(lt ct:LT->Option G)(f:E)(a:As):E:=fun ev S=>(f ev S).bind fun p=>match p.1 with
 | .fn x=>(ft x).bind fun g=>(a ev p.2).bind fun q=>g q.1 q.2
 | .lam t=>(lt t).bind fun g=>(a ev p.2).bind fun q=>g q.1 q.2
 | .clo t vs=>(ct t).bind fun g=>(a ev p.2).bind fun q=>if(noCL q.1&&zfq vs&&zmv q.2)=true/\q.1.length=t.params.args.length then g (q.1++vs) q.2 else none
 |_=>none
section
variable {X:Cx}{k:Nat}{f:E}{a:As}{e:Expr}{es:List Expr}{pos:Pos}
theorem zeh{fe:Expr}{ft:Str->Option G}{lt ct:LT->Option G}(hT:∀x g,ft x=some g->Cal X.prog X.w X.K X.mg X.base k x g)(hL:∀t g,lt t=some g->LCal X.prog X.w X.K X.mg X.base k t g)(hC:∀t g,ct t=some g->CCal X.prog X.w X.K X.mg X.base k t g)(hr:Room k X.A)(hf:FE X fe f)(ha:FA X (e::es) a)
   (ht:eval (.Call fe (e::es) [] pos) X.env=(eval fe X.env >>= fun v=>callWith pos v [] (backTo pos (starEach (e::es) X.env)) (backToKw pos (keywordEach [] X.env))):=by rfl)
   (he:starEach (e::es) X.env=(false,eval e X.env)::starEach es X.env:=by exact q0 rfl) (hpl:(backTo pos (starEach es X.env)).any (·.1)=false:=by exact ju rfl) :
   FE X (.Call fe (e::es) [] pos) (zaq ft lt ct f a):=by
 intro pins s σ H Q I h;obtain⟨ρ,ev,S,d,S',hE,hS,hf',kk⟩:=h;obtain⟨⟨y,S1⟩,q1,hf'⟩:=z8 hf';cases y with
 | fn x=>
   refine za1 (ft:=ft) (lt:=lt) hT hL hr hf ha ht he hpl pins s σ H Q I ⟨ρ,ev,S,d,S',hE,hS,?_,kk⟩;unfold yw;rw[q1];exact hf'
 | lam t=>
   refine za1 (ft:=ft) (lt:=lt) hT hL hr hf ha ht he hpl pins s σ H Q I ⟨ρ,ev,S,d,S',hE,hS,?_,kk⟩;unfold yw;rw[q1];exact hf'
 | clo t kv=>
   rw[ht];dsimp only at hf';obtain⟨g,hx,hf'⟩:=z8 hf';obtain⟨⟨ds,S2⟩,q2,hf'⟩:=z8 hf';dsimp only at hf';split at hf'
   · rename_i hno;obtain⟨hno,hlen⟩:=hno;obtain⟨ps,F,hb⟩:=(hC t g hx).ex;refine z1v (thn (hf pins s σ H (fun v H1=>∃ρ1 a0 us,v=.ref a0/\Ext ρ H ρ1 H1/\StOk X.K X.mg ρ1 H1 S1/\CloAt ρ1 H1 t us a0/\RepL X.K X.mg ρ1 H1 kv us) I ⟨ρ,ev,S,_,S1,hE,hS,q1,fun v ρ1 H1 E1 hS1 r1=>?_⟩) fun u s1 ⟨v,H1,I1,rv,ρ1,a0,us,ev1,E1,hS1,L1,rk⟩=>?_)
     · unfold Rep at r1;obtain⟨b,us,rfl,L,rk⟩:=r1;exact⟨ρ1,b,us,rfl,E1,hS1,L,rk⟩
     · subst ev1;obtain rfl:u=Value.ref a0:=rv;obtain⟨n0,c,pm,ctv,cl,nc,hA,hC,hnd,hcs⟩:=L1;have at_:∀{H':Hp}{s':Shared},Inv X pins σ H' s'->H' a0=some (.ext (zoi t cl a0 c pm ctv))->FnAt a0 s'.heap:=fun J e=>⟨_,_,_,_,(J.hok a0 _ e).1⟩
       refine callWith_F (at_ I1 hA) (thn (ha pos pins s1 σ H1 (fun vs H2=>(H2 a0=some (.ext (zoi t cl a0 c pm ctv)))/\zm6 X.K X.mg t a0 c pm ctv cl g vs H2 Q E0) I1 ⟨ρ1,ev,S1,ds,S2,hE.mono E1,hS1,q2,fun vs ρ2 H2 E2 hS2 r2=>?_⟩) fun us s2 ⟨vs,H2,I2,r,hA2,q2⟩=>⟨at_ I2 hA2,?_⟩) he hpl
       · have h1:=E2.keep _ _ hA n0;have h2:=E2.keep _ _ hC nc;exact⟨h1,ρ2,ds,S2,d,S',us,kv,r2,hS2,h1,h2,hnd,hcs.mono E2,rk.mono E2,hno,hf',hlen,fun v ρ' H' E' hS' r'=>kk v ρ' H' ((E1.trans E2).trans E') hS' r'⟩
       · exact zfc (ds:=[]) (dvs:=[]) (F a0 c pm ctv cl) hr (hb c pm ctv cl) .nil zgs I2 r (by rw[z1z];exact q2)
   · cases hf'
 |_=>cases hf'
end
end F
namespace F
open PySem L2 PySem.Spec PySem.Calls PyProof.Rows PySem.W
def zoj(ev:Ev):List Nat->Option (List D)
 | []=>some []
 | i::is=>match ev[i]? with
   |some (some d)=>(zoj ev is).map (d::·)
   |_=>none
structure CapsOk (X:Cx) (t:LT) (cl:zLA) (is:List Nat):Prop where
 clo:closureFor t.scope X.env=pure cl
 names:cl.map (·.1)=t.caps
 look:∀p∈cl,X.env.cells.lookup p.1=some p.2
 nd:t.caps.Nodup
 at_:is.map (fun i=>X.N[i]?)=t.caps.map some
 kind:∀x∈t.caps,X.env.scope.names.lookup x=some .cell
 fn:∀x∈t.caps,X.fn x=true
def trk(H:Hp)(h:Heap)(cl:zLA):Hp:=onC H (fun b=>(h.get? b).map fun o=>.frz o (.own 0)) cl
section
variable {X:Cx}{pins:zAO}{σ:L2.St}{H H':Hp}{s:Shared}{t:LT}{cl:zLA}{is:List Nat}{ρ:List Addr}{ev:Ev}{S:Sto}
theorem CapsOk.hn(C:CapsOk X t cl is)(I:Inv X pins σ H s):∀b∈cl.map (·.2),H b=none:=fun b hb=>by obtain⟨p,hp,rfl⟩:=z1x.mp hb;exact I.freeC _ _ (C.look p hp)
theorem CapsOk.isc(C:CapsOk X t cl is)(I:Inv X pins σ H s):∀b∈cl.map (·.2),∃o v,s.heap.get? b=some o/\o.data=.cell v:=fun b hb=>by obtain⟨p,hp,rfl⟩:=z1x.mp hb;obtain⟨v,o,h1,h2⟩:=I.cell _ _ (C.look p hp);exact⟨o,v,h1,h2⟩
theorem CapsOk.nodup(C:CapsOk X t cl is)(I:Inv X pins σ H s):(cl.map (·.2)).Nodup:=by have nd:(cl.map (·.1)).Nodup:=C.names▸C.nd;unfold List.Nodup at nd ⊢;rw[z36]at nd ⊢;refine nd.imp_of_mem fun {p q} hp hq ne e=>ne ?_;exact I.ok.inj _ _ p.2 (C.look p hp) (by rw[C.look q hq,e])
theorem CapsOk.ext(C:CapsOk X t cl is)(I:Inv X pins σ H s):Ext ρ H ρ (trk H s.heap cl) :=
 ⟨fun _ _ e=>e,fun b o h n=>by
   unfold trk;rw[jo (fun z=>by rw[C.hn I b z]at h;cases h)];exact h,fun _ z n=>absurd z n,fun b u v _ h=>by
   unfold trk;rw[jo (fun z=>by rw[C.hn I b z]at h;cases h)];exact h⟩
theorem CapsOk.st(C:CapsOk X t cl is)(I:Inv X pins σ H s)(hS:StOk X.K X.mg ρ H S):StOk X.K X.mg ρ (trk H s.heap cl) S :=
 hS.on (C.hn I)
theorem CapsOk.hok(C:CapsOk X t cl is)(I:Inv X pins σ H s):HOk X.prog X.w (trk H s.heap cl) s.heap:=fun b u e=>by
 unfold trk at e;by_cases z:b∈cl.map (·.2)
 · obtain⟨o,v,h1,_⟩:=C.isc I b z;rw[zfg z,h1]at e;cases e;exact⟨h1,⟨o,h1⟩⟩
 · rw[jo z]at e;refine(I.hok b u e).stay (fun _ _ _ q=>q) (fun d q=>?_) fun d xs q=>?_
   · unfold trk;rw[jo (fun y=>by rw[C.hn I d y]at q;cases q)];exact q
   · unfold trk;rw[jo (fun y=>by rw[C.hn I d y]at q;cases q)];exact q
theorem zf3(C:CapsOk X t cl is)(I:Inv X pins σ H s)(hE:EnvR X.K X.mg ρ H ev σ)(hS:StOk X.K X.mg ρ H S) :
   ∀(cl':zLA) (js:List Nat) (vs:List D),(∀p∈cl',p∈cl)->js.map (fun i=>X.N[i]?)=cl'.map (fun p=>some p.1)->zoj ev js=some vs->∃us,Cells ρ (trk H s.heap cl) (cl'.map (·.1)) us cl'/\RepL X.K X.mg ρ H vs us
 | [],[],vs,_,_,h=>by cases h;exact⟨[],trivial,RepL.nil⟩
 | [],_::_,_,_,e,_=>by cases e
 |_::_,[],_,_,e,_=>by cases e
 | p::cl',i::js,vs,hm,e,h=>by
   rw[z1g,z1g]at e;obtain⟨e1,e2⟩:=z2a e;unfold zoj at h;split at h
   · rename_i d hd;obtain⟨vs',hv,h⟩:=zbs h;subst h;obtain⟨us,c1,r1⟩:=zf3 C I hE hS cl' js vs' (fun q hq=>hm q (z09 _ hq)) e2 hv;obtain⟨v,hσ,rd⟩:=hE.at_ i d hd;obtain⟨m,hns,hl⟩:=I.loc;have hp:=hm p z1j;have hpm:p.1∈t.caps:=C.names▸z21 hp;have kd:=C.kind _ hpm;obtain⟨u,ru,lk⟩:=hl i p.1 v e1 hσ (.inr (.inl kd));have hb:p.2∈cl.map (·.2):=z21 hp;refine⟨v::us,⟨rfl,hS.fresh (C.hn I _ hb),?_,c1⟩,RepL.cons rd r1⟩;rcases lk with⟨k1,_⟩ | ⟨_,c,z1,o,z2,z3⟩
     · have:X.env.scope.names.lookup p.1=some .local:=k1;rw[kd]at this;cases this
     · rw[C.look p hp]at z1;cases z1;exact⟨o,u,by unfold trk;rw[zfg hb,z2];rfl,z3,ru⟩
   · cases h
theorem zlp{c:Addr}{pm ct:Value}{h':Heap}{tk:Nat}(I:Inv X pins σ H s)(hk:∀b o,s.heap.get? b=some o->h'.get? b=some o)(hsz:s.heap.objs.size<=h'.objs.size) :
   Inv X pins σ (upd H h'.objs.size (.ext (zoi t cl h'.objs.size c pm ct))) { s with heap:=h'.push (kla_obj "<lambda>" t.qual t.params t.body t.scope cl pm c ct),toks:=tk }:=by
 refine I.laid (t':=tk) (fun b o e=>z1i _ (hk b o e)) hsz ?_;refine⟨z1w _ rfl,⟨_,z1w _ rfl⟩,fun h1 h2 p k=>k _ p⟩
def zxl(K:Frag)(mg:zMg)(j:Nat)(x:Str)(t:LT)(cl:zLA):TE:=fun σ H Q=>∃ρ S,StOk K mg ρ H S/\S[j]? = some (.tab x t.qual) /\
 ∀a c pm ct H',Ext ρ H ρ H'->StOk K mg ρ H' S->a∉ρ->c∉ρ->H' a=some (.ext (zoi t cl a c pm ct))->H' c=some (.ext (za4 c t.qual))->Q (.ref a) H'
theorem zul{x:Str}{params:Arguments}{body:Expr}{scope:Scope}{pos:Pos}{caps:List Str}(j:Nat)(hcd:zi1 X.K X.mg x X.env.code)(hb:zmt X.base X.mg)(hcl:closureFor scope X.env=pure cl)(hdef:defaultsOf params X.env=([],[]):=by rfl) :
   PE X (.Lambda params body scope pos) (zxl X.K X.mg j x ⟨params,body,scope,X.env.qual++"<lambda>",caps,[]⟩ cl):=by
 intro pins s σ H Q I h;obtain⟨ρ,S,hS,hj,k⟩:=h;obtain⟨P,hP,T,ps,hps,htr,hcs⟩:=hS.adr hj;obtain⟨f1,o1,fd1,c1,e1,e2,e3,e4,e5⟩:=T;obtain⟨f2,o2,fd2,g1,g2,g3,g4⟩:=hcd;rw[e1]at g1;cases g1;rw[e2]at g2;cases g2;rw[e3]at g3;cases g3;have hcode:X.env.code=.ref c1:=g4.symm.trans e4;have C:CodeHd s.heap c1 P:=codeHd_of_K I.kIn e5;have hPt:s.heap.get? P=some (tabObj ps):=I.hok P _ hps;have bs:=I.bs;have nP:∀b o,X.base.get? b=some o->b≠P:=fun b o e z=>by have:=(bs b o e).2;rw[z,hps]at this;cases this
 have hg:s.heap.Ns mainGlobals X.mg:=by obtain⟨o,es,ep,ho,r⟩:=I.mod.glob;exact⟨o,es,ep,I.bk _ _ ho,r⟩
 have hgP:mainGlobals≠P:=by obtain⟨o,es,ep,ho,r⟩:=I.mod.glob;exact nP _ _ ho
 obtain⟨bm,ob,b1,b2,b3,b4,b5,b6,b7⟩:=hb;have hBA:s.heap.BuiltinsAt X.mg P:=⟨bm,ob,b1,b2,b3,nP _ _ b4,I.bk _ _ b4,b5,b6,b7⟩
 refine kla_eval hdef ?_;cases hca:codeAmong pos ps.toList with
 | none=>
   refine kla_makeFunction hcl I.ok.glob hg hcode C hPt htr hca hgP hBA fun c' ctv h' tk hx hge hlt hrec htb=>?_;have hn:H c'=none:=I.hok.fresh hge;have I1:=zrs (q:=X.env.qual++"<lambda>") (tk:=tk) I hps hx htb hge hrec;have I2:=zlp (t:=⟨params,body,scope,X.env.qual++"<lambda>",caps,[]⟩) (cl:=cl) (c:=c') (pm:=(X.mg "__name__").getD .none) (ct:=ctv) (h':=h') (tk:=tk) I1 (fun _ _ e=>e) (z07 _);obtain⟨E1,S1⟩:=zm2 (a:=pos.line) (b:=pos.col) hS hj hP hps hn;have hf:=I1.hok.fresh (a:=h'.objs.size) (z07 _);have E2:=kf S1 (.ext (zoi ⟨params,body,scope,X.env.qual++"<lambda>",caps,[]⟩ cl h'.objs.size c' ((X.mg "__name__").getD .none) ctv)) hf;exact⟨.ref h'.objs.size,_,I2,rfl,k _ c' _ _ _ (E1.trans E2) (S1.new _ hf) (S1.fresh hf) (hS.fresh hn) ql (by rw[qg (z1o hlt),ql])⟩
 | some cv=>
   obtain⟨c',rfl,nc,hc'⟩:=hcs pos cv hca;refine kla_makeFunctionHit hcl I.ok.glob hg hcode C hPt htr hca hBA fun ctv h' tk hk hsz=>?_;have hf:H h'.objs.size=none:=I.hok.fresh hsz;have I2:=zlp (t:=⟨params,body,scope,X.env.qual++"<lambda>",caps,[]⟩) (cl:=cl) (c:=c') (pm:=(X.mg "__name__").getD .none) (ct:=ctv) (h':=h') (tk:=tk) I hk hsz;have E2:=kf hS (.ext (zoi ⟨params,body,scope,X.env.qual++"<lambda>",caps,[]⟩ cl h'.objs.size c' ((X.mg "__name__").getD .none) ctv)) hf;exact⟨.ref h'.objs.size,_,I2,rfl,k _ c' _ _ _ E2 (hS.new _ hf) (hS.fresh hf) nc ql (E2.keep _ _ hc' nc)⟩
end
end F
namespace F
open PySem L2 PySem.Spec PyProof.Rows
def zxr(f g:E):C:=fun ev S=>(f ev S).bind fun p=>match p.1 with
 | .obj i=>(match p.2[i]? with
   | some (.lst _)=>(g ev p.2).bind fun q=>(match q.1,q.2[i]? with
     | .lst bs,some (.lst as)=>if as.length+bs.length<=sizeLine then some (.nx ev,q.2.set i (.lst (as++bs)))else none
     |_,_=>none)
   |_=>none)
 |_=>none
def zlc(S:Sto):List D->Option D
 | [.obj a]=>(match S[a]? with
   |some (.dct kvs)=>some (.int kvs.length)
   |_=>none)
 |_=>none
section
variable {X:Cx}{K:zFr}{mg:zMg}{e:Expr}{g:As}{p pos:Pos}
theorem zjp:CallR X (.builtin "len") (fun xs H Q=>∃a kvs,xs=[V.ref a]/\H a=some (.dK kvs)/\Q (.int kvs.length) H):=by intro pins s σ H xs us Q I r h;obtain⟨a,kvs,rfl,ha,q⟩:=h;obtain⟨u,rfl,ru⟩:=r.one;cases ru;exact zy3 I (.inl ha) fun t s' I'=>⟨.int kvs.length,H,I',⟨t,rfl⟩,q⟩
theorem zkc:zs6 K mg (fun xs H Q=>∃a kvs,xs=[V.ref a]/\H a=some (.dK kvs)/\Q (.int kvs.length) H) zlc:=by
 intro ρ H S xs ds d Q hS r e k;unfold zlc at e;split at e
 · split at e
   · rename_i kvs hd;cases e;replace r:=one r;obtain⟨v,rfl,r⟩:=r;unfold Rep at r;obtain⟨p,rfl,hp⟩:=r;obtain⟨vs,h1,h2,h3⟩:=hS.ob _ _ p hd hp;have el:vs.length=kvs.length:=by have:=z2f List.length h2;simpa using this
     exact⟨p,vs,rfl,h1,by rw[el];exact k _ H (Ext.refl _ _) hS rfl⟩
   · cases e
 · cases e
theorem zr8(hm:X.mg "len"=none)(ha:FA X [e] g)(hg:Gl X "len":=by rfl)(he:starEach [e] X.env=(false,eval e X.env)::starEach [] X.env:=by exact q0 rfl)(hpl:(backTo pos (starEach [] X.env)).any (·.1)=false:=by exact ju rfl):FE X (.Call (.Name "len" p) [e] [] pos) (eA zlc g) :=
 ziq zjp zkc hm PySem.boot_len ha hg (by decide) (by decide) he hpl
end
def frzD(g:G):G:=fun ds S=>(g ds S).bind fun r=>match r.1 with
 | .obj i=>if S.length<=i/\(r.2.take S.length).all (zgc S.length)=true then (match r.2[i]? with
   |some (.dct kvs)=>if zgc S.length (.dct kvs)=true then some (.obj S.length,r.2.take S.length++[.dct kvs])else none
   |_=>none)else none
 |_=>none
section
variable {K:zFr}{mg:zMg}{ρ ρ':List Addr}{H H':Hp}{S S1:Sto}{n:Nat}
def MoreP(H:Hp)(ρ ρ2:List Addr):Prop:=(∀(i:Nat) (a:Addr),ρ[i]? = some a->ρ2[i]? = some a)/\∀b∈ρ2,b∉ρ->∃kvs,H b=some (.dK kvs)
theorem MoreP.nin{ρ2:List Addr}(m:MoreP H ρ ρ2){b:Addr}{u:HO}(e:H b=some u)(n:∀kvs,u≠.dK kvs)(h:b∉ρ):b∉ρ2:=fun z=>by obtain⟨kvs,y⟩:=m.2 b z h;rw[e]at y;exact n kvs (z1s y)
theorem TupAt.more{ρ2:List Addr}{p:Addr}{vs:List V}(m:MoreP H ρ ρ2)(h:TupAt K ρ H p vs):TupAt K ρ2 H p vs :=
 h.imp (fun⟨a,b⟩=>⟨by rcases b with b | ⟨o,b⟩<;>exact m.nin b (fun _ z=>by cases z) a,b⟩) id
theorem LstAt.more{ρ2:List Addr}{p:Addr}{vs:List V}(m:MoreP H ρ ρ2)(h:LstAt K ρ H p vs):LstAt K ρ2 H p vs :=
 h.imp (fun⟨a,b⟩=>⟨by rcases b with b | ⟨o,b⟩<;>exact m.nin b (fun _ z=>by cases z) a,b⟩) id
theorem Cells.more{ρ2:List Addr}(m:MoreP H ρ ρ2):∀{xs:List Str}{us:List V}{cl:zLA},Cells ρ H xs us cl->Cells ρ2 H xs us cl
 | [],[],[],_=>trivial
 | x::xs,u::us,p::cl,h=>by obtain⟨h1,h2,⟨o,w,h3,h4⟩,h5⟩:=h;exact⟨h1,m.nin h3 (fun _ z=>by cases z) h2,⟨o,w,h3,h4⟩,Cells.more m h5⟩
 | [],[],_::_,h=>h.elim
 | [],_::_,_,h=>h.elim
 |_::_,[],_,h=>h.elim
 |_::_,_::_,[],h=>h.elim
mutual
theorem Rep.more{ρ2:List Addr}(m:MoreP H ρ ρ2):∀{d:D}{v:V},Rep K mg ρ H d v->Rep K mg ρ2 H d v
 | .non,_,h=>h
 | .bl _,_,h=>h
 | .int _,_,h=>h
 | .str _,_,h=>h
 | .fn _,_,h=>h
 | .ty _,_,h=>h
 | .obj i,_,h=>by unfold Rep at h ⊢;obtain⟨a,e1,e2⟩:=h;exact⟨a,e1,m.1 _ _ e2⟩
 | .tup ds,_,h=>by unfold Rep at h ⊢;obtain⟨p,vs,e1,t,r⟩:=h;exact⟨p,vs,e1,t.more m,RepL.more m r⟩
 | .lst ds,_,h=>by unfold Rep at h ⊢;obtain⟨p,vs,e1,t,r⟩:=h;exact⟨p,vs,e1,t.more m,RepL.more m r⟩
 | .lam t,_,h=>by unfold Rep at h ⊢;obtain⟨a,e1,n1,c,pm,ct,n2,h1,h2⟩:=h;exact⟨a,e1,m.nin h1 (fun _ z=>by cases z) n1,c,pm,ct,m.nin h2 (fun _ z=>by cases z) n2,h1,h2⟩
 | .clo t vs,_,h=>by unfold Rep at h ⊢;obtain⟨a,us,e1,⟨n1,c,pm,ct,cl,n2,h1,h2,h3,h4⟩,r⟩:=h;exact⟨a,us,e1,⟨m.nin h1 (fun _ z=>by cases z) n1,c,pm,ct,cl,m.nin h2 (fun _ z=>by cases z) n2,h1,h2,h3,h4.more m⟩,RepL.more m r⟩
theorem RepL.more{ρ2:List Addr}(m:MoreP H ρ ρ2):∀{ds:List D}{vs:List V},RepL K mg ρ H ds vs->RepL K mg ρ2 H ds vs
 | [],_,h=>h
 | d::ds,_,h=>by unfold RepL at h ⊢;obtain⟨v,r,e,h1,h2⟩:=h;exact⟨v,r,e,Rep.more m h1,RepL.more m h2⟩
end
theorem MOk.more{ρ2:List Addr}{a:Addr}{o:MO}(m:MoreP H ρ ρ2)(h:MOk K mg ρ H a o):MOk K mg ρ2 H a o:=by
 cases o with
 |lst ds=>obtain⟨vs,h1,h2⟩:=h;exact⟨vs,h1,h2.more m⟩
 |ins c fs=>obtain⟨C,dx,vs,h0,h1,h2,h3⟩:=h;exact⟨C,dx,vs,h0,h1,h2,h3.more m⟩
 |dct kvs=>obtain⟨vs,h1,h2,h3⟩:=h;exact⟨vs,h1,h2,h3.more m⟩
 |fdc kvs=>obtain⟨o,vs,h1,h2,h3⟩:=h;exact⟨o,vs,h1,h2,RepL.more m h3⟩
 |exc c=>exact h
 |tab x q=>obtain⟨h0,ps,h1,h2,h3⟩:=h;exact⟨h0,ps,h1,h2,fun pos cv z=>let⟨c,z1,z2,z3⟩:=h3 pos cv z;⟨c,z1,m.nin z3 (fun _ z=>by cases z) z2,z3⟩⟩
theorem zr5{g:G}(vs:List V)(H:Hp)(Q:VK)(E:XK)(h:spG K mg (frzD g) vs H Q E):spG K mg g vs H Q E:=by
 obtain⟨ρ,ds,S,d,S',hr,hS,hf,k⟩:=h;obtain⟨⟨d1,S1⟩,q1,hf⟩:=z8 hf;refine⟨ρ,ds,S,d1,S1,hr,hS,q1,fun v ρ' H' E1 hS1 r1=>?_⟩;dsimp only at hf;split at hf
 · rename_i i;split at hf
   · rename_i hc;obtain⟨hi,hb⟩:=hc;split at hf
     · rename_i kvs eu;split at hf
       · rename_i hk;cases hf;unfold Rep at r1;obtain⟨a,rfl,ea⟩:=r1;have hia:i<ρ'.length:=(z06.mp ea).1;have hl:(ρ'.take S.length).length=S.length:=by rw[z1n];omega
         have nin:a∉ρ'.take S.length:=fun z=>by
           obtain⟨j,hj,ej⟩:=z2k z;rw[List.getElem_take]at ej;have hj2:j<ρ'.length:=by omega
           have e3:ρ'[j]? = ρ'[i]?:=by rw[ea,z08 hj2,ej]
           have:=(List.getElem?_inj hj2 hS1.nd).mp e3;omega
         have mo:=hS1.ob i _ a eu ea;have e0:=E1.cut hS.len;have s0:=hS1.cut hb;have ma:∃ws,H' a=some (.dK ws):=by obtain⟨ws,m1,_⟩:=mo;exact⟨ws,m1⟩
         have mp:MoreP H' (ρ'.take S.length) (ρ'.take S.length++[a]):=⟨fun j b e=>by rw[z1k (z06.mp e).1];exact e,fun b hb' n=>by
           rcases z1p.mp hb' with z | z
           · exact absurd z n
           · rw[z05.mp z];exact ma⟩
         refine k (.ref a) (ρ'.take S.length++[a]) H' ⟨fun j b e=>mp.1 _ _ (e0.pre j b e),e0.keep,fun b hb' n=>?_,e0.frz⟩ ⟨?_,?_,fun j m b e1 e2=>?_⟩ ?_
         · rcases z1p.mp hb' with z | z
           · exact e0.new b z n
           · rw[z05.mp z]at n ⊢;exact E1.new a (z1m ea) n
         · rw[z03,z03,s0.len];rfl
         · refine z2q.mpr ⟨s0.nd,by simp,fun x hx y hy z=>?_⟩;rw[z05.mp hy]at z;exact nin (z▸hx)
         · have hl2:(S1.take S.length).length=S.length:=by rw[<-s0.len];exact hl
           by_cases hj:j<S.length
           · rw[z1k (by omega)]at e1 e2;exact(s0.ob j m b e1 e2).more mp
           · rw[z1a (by omega),hl2]at e1;rw[z1a (by omega),hl]at e2;cases hq:j-S.length with
             | zero=>
               rw[hq]at e1 e2;cases e1;cases e2;exact(mo.cut hk).more mp
             |succ q=>rw[hq]at e1;cases e1
         · unfold Rep;exact⟨a,rfl,by rw[z1a (by omega),hl];simp⟩
       · cases hf
     · cases hf
   · cases hf
 · cases hf
end
theorem Cal.frzD{P:Program}{w:World}{K:zFr}{mg:zMg}{base:Heap}{k:Nat}{x:Str}{g:G}(c:Cal P w K mg base k x g):Cal P w K mg base k x (frzD g):=by obtain⟨f,fd,ps,ds,dvs,dds,gg,FF,hm,hk,hb,hd,hdd,hg⟩:=c.ex;refine⟨f,fd,ps,ds,dvs,dds,_root_.F.frzD gg,FnOk.imp FF zr5,hm,hk,hb,hd,hdd,fun args S r e=>?_⟩;obtain⟨r0,q,e⟩:=z8 e;show(gg (args++dds) S).bind _=_;rw[hg args S r0 q];exact e
end F
namespace F
open PySem L2 PySem.Spec PyProof.Rows PySem.W
section
variable {X:Cx}{o e lo hi:Expr}{pos pos' p2:Pos}{f h:E}{u w:Pt}
def zzo(f:E)(a b:Pt)(v:E):C:=fun ev S=>(v ev S).bind fun p=>(f ev p.2).bind fun q=>(a ev q.2).bind fun r=>(b ev r.2).bind fun t=>match p.1,q.1,r.1,t.1 with
 | .lst ys,.obj i,some lo,some hi=>(match t.2[i]? with
   |some (.lst ds)=>if 0<=lo/\lo<=hi/\hi<=ds.length/\ds.length+ys.length<=sizeLine then some (.nx ev,t.2.set i (.lst (ds.take lo.toNat++ys++ds.drop hi.toNat)))else none
   |_=>none)
 |_,_,_,_=>none
end
section
variable {X:Cx}{K:Frag}{mg:zMg}{e o l:Expr}{f g:E}{pos apos spos px pt:Pos}{body:C}
def zz4(f:E):E:=fun ev S=>(f ev S).bind fun p=>match p.1 with
 | .obj a=>(match p.2[a]? with
   |some (.lst _)=>some (.non,p.2.set a (.lst []))
   |_=>none)
 |_=>none
def zu0(a i:Nat)(body:C):Nat->Nat->Ev->Sto->Option (Out×Sto)
 |0,_,_,_=>none
 | n+1,j,ev,S=>match S[a]? with
   | some (.lst ds)=>(match ds[j]? with
     |none=>some (.nx ev,S)
     | some d=>(body (ev.set i (some d)) S).bind fun p=>(match p.1 with
       | .nx e=>zu0 a i body n (j+1) e p.2
       | .ct e=>zu0 a i body n (j+1) e p.2
       | .bk e=>some (.nx e,p.2)
       | .rt x=>some (.rt x,p.2)))
   |_=>none
def zbz(a:Nat)(is:List Nat)(body:C):Nat->Nat->Ev->Sto->Option (Out×Sto)
 |0,_,_,_=>none
 | n+1,j,ev,S=>match S[a]? with
   | some (.lst ds)=>(match ds[j]? with
     |none=>some (.nx ev,S)
     | some (.tup us)=>(yd ev is us).bind fun e1=>(body e1 S).bind fun p=>(match p.1 with
       | .nx e=>zbz a is body n (j+1) e p.2
       | .ct e=>zbz a is body n (j+1) e p.2
       | .bk e=>some (.nx e,p.2)
       | .rt x=>some (.rt x,p.2))
     |_=>none)
   |_=>none
def zkj(is:List Nat)(f:E)(body:C):C:=fun ev S=>(f ev S).bind fun p=>match p.1 with
 | .obj a=>(match p.2[a]? with
   |some (.lst ds)=>zbz a is body (ds.length+1) 0 ev p.2
   |_=>none)
 |_=>none
theorem zn1(is:List Nat){es:List Expr}{t:TGs}{kk:Nat}{sb:List Stmt}(hn:Names X es is t)(hl:FE X l f)(hb:FSs X sb body)(hp:PassesOwn (model X.prog X.w) X.A X.env X.xe)(hc:X.calm=true:=by rfl)(hln:(assignEach es X.env).length=is.length:=by rfl)(hst:(assignEach es X.env).findIdx? (·.1)=none:=by rfl)
   (hs:∀v,foldedSetIterable l X.env v=pure v:=by intro _;rfl) :
   FS X (.For (.Tuple es kk pt) l sb [] pos) (zkj is f body) :=
 xi (zh7 hp hc (zkv hl) (zub hc hn.pgs hln hst) hb hs) fun σ H D h=>by
   obtain⟨ρ,ev,S,o,S',hE,hS,hf,k⟩:=h;obtain⟨⟨d,S1⟩,q1,hf⟩:=z8 hf;cases d with
   | obj a=>
     dsimp only at hf;split at hf
     · rename_i ds hd;refine⟨ρ,ev,S,_,S1,hE,hS,q1,fun v ρ1 H1 E1 hS1 r1=>?_⟩;unfold Rep at r1;obtain⟨p,rfl,hp⟩:=r1;obtain⟨us,hu,ru⟩:=hS1.ob a _ p hd hp;have k1:=k.ext E1;refine⟨p,rfl,⟨us,SqL.of hu⟩,fun j m σ' H'=>∃ρ' ev' S2,Ext ρ1 H1 ρ' H'/\StOk X.K X.mg ρ' H' S2/\EnvR X.K X.mg ρ' H' ev' σ'/\zbz a is body m j ev' S2=some (o,S'),⟨ds.length+1,ρ1,ev,S1,Ext.refl _ _,hS1,hE.mono E1,hf⟩,?_⟩;rintro j m σ' H' ⟨ρ',ev',S2,e0,hS2,hE2,hl2⟩;cases m with
       |zero=>cases hl2
       | succ m=>
         unfold zbz at hl2;split at hl2
         · rename_i ds2 hd2;obtain⟨us2,hu2,ru2⟩:=hS2.ob a _ p hd2 (e0.pre _ _ hp);split at hl2
           · rename_i hj;cases hl2;refine .inl ⟨⟨us2,SqL.of hu2,?_⟩,k1 σ' ρ' H' e0 hS2 hE2⟩;have:=ru2.length;have:=List.getElem?_eq_none_iff.mp hj;omega
           · rename_i ws hj;obtain⟨y,ey,ry⟩:=ru2.get hj;obtain⟨e1,q2,hl2⟩:=z8 hl2;obtain⟨⟨o1,S3⟩,q3,hl2⟩:=z8 hl2;refine .inr ⟨⟨us2,y,SqL.of hu2,ey⟩,fun σ3 H3=>∃ρ3 ev3 S3,Ext ρ1 H1 ρ3 H3/\StOk X.K X.mg ρ3 H3 S3/\EnvR X.K X.mg ρ3 H3 ev3 σ3/\zbz a is body m (j+1) ev3 S3=some (o,S'),fun σ3 H3 z=>⟨m,z3b m,z⟩,fun x H3 ⟨eH,hx⟩=>?_⟩;subst eH;have ex:=hx us2 (SqL.of hu2);rw[ey]at ex;cases ex;unfold Rep at ry;obtain⟨pp,vs,rfl,tt,rr⟩:=ry;refine⟨pp,vs,rfl,tt.sq,by rw[<-rr.length];exact zbr q2,zif hn rr hE2 q2 fun σ2 hE3=>⟨ρ',e1,S2,o1,S3,hE3,hS2,q3,?_⟩⟩;cases o1 with
             |nx e=>exact fun σ3 ρ3 H3 E3 hS3 hE4=>⟨ρ3,e,S3,e0.trans E3,hS3,hE4,hl2⟩
             |ct e=>exact fun σ3 ρ3 H3 E3 hS3 hE4=>⟨ρ3,e,S3,e0.trans E3,hS3,hE4,hl2⟩
             |bk e=>cases hl2;exact fun σ3 ρ3 H3 E3 hS3 hE4=>k1 σ3 ρ3 H3 (e0.trans E3) hS3 hE4
             |rt y=>cases hl2;exact fun v3 ρ3 H3 E3 hS3 r3=>k1 v3 ρ3 H3 (e0.trans E3) hS3 r3
           · cases hl2
         · cases hl2
     · cases hf
   |_=>cases hf
end
end F
namespace F
open PySem L2 PySem.Spec PyProof.Rows
section
open PySem.SeqAt
open PySem.AutoSeq1 (wpAny_loadPart')
open PySem.MeetsSeq PySem.MeetsSeq2 PySem.MeetsSeq3
end
section
variable {prog:Program}{w:World}{A:Around}{E:zVP}{s:Shared}
end
section
open Classical
def zad(a:Nat)(us:List D)(c:B)(g:E)(fr:Ev):List D->Sto->Option (List D×Sto)
 | [],S=>if S[a]? = some (.lst us)then some ([],S)else none
 |d::ds,S=>if S[a]? = some (.lst us)then (c (some d::fr) S).bind fun p=>if p.1=true then (g (some d::fr) p.2).bind fun q=>(zad a us c g fr ds q.2).bind fun r=>some (q.1::r.1,r.2)else zad a us c g fr ds p.2 else none
end
theorem zmc{a:Nat}{us:List D}{c:B}{g:E}{fr:Ev}{ds:List D}{S:Sto}{r:List D×Sto}(h:zad a us c g fr ds S=some r):S[a]? = some (.lst us):=by
 cases ds with
 | nil=>
   unfold zad at h;split at h
   · assumption
   · cases h
 | cons d ds=>
   unfold zad at h;split at h
   · assumption
   · cases h
theorem zjm{a:Nat}{us:List D}{c:B}{g:E}{fr:Ev}{S:Sto}(h:S[a]? = some (.lst us)):zad a us c g fr [] S=some ([],S):=by unfold zad;rw[z1t h]
theorem zhf{a:Nat}{us:List D}{c:B}{g:E}{fr:Ev}{d:D}{ds:List D}{S:Sto}(h:S[a]? = some (.lst us)):zad a us c g fr (d::ds) S=(c (some d::fr) S).bind fun p=>if p.1=true then (g (some d::fr) p.2).bind fun q=>(zad a us c g fr ds q.2).bind fun r=>some (q.1::r.1,r.2)else zad a us c g fr ds p.2:=by rw[zad,z1t h]
end F
namespace Srt
open PySem PyProof.Rows
section
variable {blt:Keyed->Keyed->Bool}
def le(blt:Keyed->Keyed->Bool)(x y:Keyed):Prop:=blt y x=false
structure Mg (blt:Keyed->Keyed->Bool) (T O A B:List Keyed):Prop where
 pa:(O++A).Pairwise (le blt)
 pb:(O++B).Pairwise (le blt)
 pm:(O++(A++B)).Perm T
variable {T O A B C:List Keyed}
variable {a b:Array Keyed}{i j k:Nat}
end
section
variable {prog:Program}{w:World}{A:Around}{E:zVP}{s:Shared}{blt:Keyed->Keyed->Bool}{U:Keyed->Prop}{kd:SortKind}{st:SortSt}{a b:Array Keyed}
structure At (blt:Keyed->Keyed->Bool) (a b out:Array Keyed) (ia ib:Nat):Prop where
 ha:ia+1<a.size
 hb:ib<b.size
 mg:Mg blt (a.toList++b.toList) out.toList (a.toList.drop ia) (b.toList.drop ib)
variable {out:Array Keyed}{ia ib k:Nat}
end
section
variable {prog:Program}{w:World}{A:Around}{E:zVP}{s:Shared}{blt:Keyed->Keyed->Bool}{U:Keyed->Prop}{kd:SortKind}{st:SortSt}{a b:Array Keyed}{pre X Y post:List Keyed}
theorem z0n(irr:∀x,blt x x=false)(sx:X.Pairwise (le blt)){j l:Nat}(hl:l<X.length)(hj:j<=l):le blt (X[j]'(z27 hj hl)) X[l]:=by
 rcases z3u j l with q | q
 · exact(List.pairwise_iff_getElem.mp sx) j l _ hl q
 · cases Nat.le_antisymm hj q;exact irr _
end
section
variable {prog:Program}{w:World}{A:Around}{E:zVP}{s:Shared}{blt:Keyed->Keyed->Bool}{U:Keyed->Prop}{kd:SortKind}{st:SortSt}{T:List Keyed}
theorem zzl{n:Nat}(h:1<n):n-2+1<n:=by omega
end
def bk(kc:Keyed->List Int)(x y:Keyed):Bool:=decide (kc x<kc y)
end Srt
namespace F
open PySem L2 PySem.Spec PySem.Calls PyProof.Rows PySem.W
open Builtin.List (listItems listUpdate)
def zyi:D->Nat
 | .int _=>0
 | .str _=>1
 | .tup [.int _,.int _]=>2
 | .tup [.int _,.str _]=>3
 |_=>4
def kn(ks:List D):Nat:=zyi (ks.headD (.int 0))
end F
namespace F
open PySem L2 PySem.Spec PySem.Calls PyProof.Rows PySem.W
abbrev Src:=Ev->Sto->Option ((List D×Option Nat)×Sto)
def okG(us:List D):Option Nat->Sto->Prop
 |none,_=>True
 |some a,S=>S[a]? = some (.lst us)
def zbe(us:List D)(o:Option Nat)(c:B)(g:E)(fr:Ev):List D->Sto->Option (List D×Sto):=match o with
 |none=>zep c g fr
 |some a=>zad a us c g fr
section
variable {us:List D}{o:Option Nat}{c:B}{g:E}{fr:Ev}
theorem zoe{ds:List D}{S:Sto}{r:List D×Sto}(h:zbe us o c g fr ds S=some r):okG us o S:=by
 cases o with
 |none=>trivial
 |some a=>exact zmc h
theorem zmb{S:Sto}(h:okG us o S):zbe us o c g fr [] S=some ([],S):=by
 cases o with
 |none=>rfl
 |some a=>exact zjm (c:=c) (g:=g) (fr:=fr) h
theorem zjl{d:D}{ds:List D}{S:Sto}(h:okG us o S):zbe us o c g fr (d::ds) S=(c (some d::fr) S).bind fun p=>if p.1=true then (g (some d::fr) p.2).bind fun q=>(zbe us o c g fr ds q.2).bind fun r=>some (q.1::r.1,r.2)else zbe us o c g fr ds p.2:=by
 cases o with
 |none=>rfl
 |some a=>exact zhf h
end
def zsy(K:Frag)(mg:zMg)(J:It)(us:List D)(o:Option Nat)(ρ1:List Addr)(H1:Hp):Prop:=∀ρ' H' S',Ext ρ1 H1 ρ' H'->StOk K mg ρ' H' S'->okG us o S' ->
 (∀i d,us[i]? = some d->J.go i H'/\∀xv H5,J.yld i H' xv H5->H5=H'/\Rep K mg ρ' H' d xv)/\∀i,us.length<=i->J.stop i H'
def wiS(X:Cx)(f:Src):TI:=fun σ H R=>∃ρ ev S us o S1,EnvR X.K X.mg ρ H ev σ/\StOk X.K X.mg ρ H S/\f ev S=some ((us,o),S1)/\∀J ρ1 H1,Ext ρ H ρ1 H1->StOk X.K X.mg ρ1 H1 S1->zsy X.K X.mg J us o ρ1 H1->(∀pins σ s,Inv X pins σ H1 s->us.length<=sizeLine)->R J H1
def zw9(X:Cx)(tg l:Expr)(f:Src):Prop:=PI X tg l (wiS X f)
def zwu(X X':Cx)(us:List D)(o:Option Nat)(cn:B)(g:E)(fre:Ev)(t:L2.St)(fp:List Addr)(tn:Nat->Heap->Prop)(Dl:Addr)(ρ1:List Addr)(H2:Hp)(ds:List D)(Sf:Sto)(m:Nat)(st:Shared):Prop :=
 ∃(i:Nat) (ρ':List Addr) (H':Hp) (ys:List V) (its:List Value) (acc rest:List D) (Si:Sto) (w:Option V),m=us.length-i/\i<=us.length/\Inv X' [] (w::t) H' st/\tn i st.heap/\(∀b∈fp,H' b=none)/\H' Dl=none/\st.heap.PlainList Dl (List.toArray its)/\Vals ys its /\
   Ext ρ1 H2 ρ' H'/\StOk X.K X.mg ρ' H' Si/\RepL X.K X.mg ρ' H' acc ys/\acc.length<=i/\zbe us o cn g fre (us.drop i) Si=some (rest,Sf)/\ds=acc++rest
section
variable {X:Cx}{pins:zAO}{σ:L2.St}{H H2:Hp}{s s2:Shared}{scope:Scope}{x:Str}{N':List Str}{fr:List Nat}{fp:List Addr}{ρ ρ1:List Addr}{ds us:List D}{S S1 S2:Sto}{o:Option Nat}
def Fin(X:Cx)(s2:Shared)(H2:Hp)(fp:List Addr)(ρ1:List Addr)(ds:List D)(S2:Sto)(use:Option (Value->Sem Unit))(Q:zVP):Prop :=
 ∀(Dl C:Addr) (s4:Shared) (H':Hp) (ρ':List Addr) (mm:zMg) (ys:List V) (its:List Value) (nn:Nat),s2.heap.objs.size<=Dl->Dl<=C->Dl≠C->s4.heap.Ns C mm->H' C=none->Un (frs X.stack) fp H2 H' s2.heap s4.heap->HOk X.prog X.w H' s4.heap->s4.os=s2.os->AllBare s4.gens ->
   s4.heap.get? Dl=some { cls:=.type "list",data:=.seq (List.toArray its) nn }->H' Dl=none->Vals ys its->RepL X.K X.mg ρ' H' ds ys->ys.length<=sizeLine->Ext ρ1 H2 ρ' H'->StOk X.K X.mg ρ' H' S2->compPost (model X.prog X.w) X.A X.xe use Q (.ref Dl) C (.ok .next) s4
theorem zma{elt l:Expr}{ifs:List Expr}{px pos:Pos}{g:E}{cn:B}{ev:Ev}{J:It}{it:Addr}{tn:Nat->Heap->Prop}{use:Option (Value->Sem Unit)}{Q:zVP}(c:CompOk X scope x N' fr)(hc:X.calm=true)
   (hif:∀C,FT (kg X (x::N') scope s2 H2 C fp) ifs cn) (helt:∀C,FE (kg X (x::N') scope s2 H2 C fp) elt g)
   (I2:Inv X pins σ H2 s2) (T:Turn X.prog X.w X.K (.Name x px) J fp it tn) (st2:tn 0 s2.heap) (f2:∀b∈fp,zms X pins H2 b) (hE1:EnvR X.K X.mg ρ1 H2 ev σ) (hS1:StOk X.K X.mg ρ1 H2 S1) (src:zsy X.K X.mg J us o ρ1 H2) (hz0:us.length<=sizeLine)
   (q2:zbe us o cn g (fr.map (zg7 ev)) us S1=some (ds,S2)) (fin:Fin X s2 H2 fp ρ1 ds S2 use Q) :
   wpAny (model X.prog X.w) X.A (newList []) (fun acc s₃=>wpAny (model X.prog X.w) X.A (newFunctionEnv scope X.env.globals (zf2 X.env.cells scope.names []) [] X.env.qual none .none (some X.env)) (fun cenv s₄=>
       codeAny (model X.prog X.w) X.A (.compStart (.ListComp elt [⟨.Name x px,l,ifs,0⟩] scope pos) 0 (.ref it) acc { cenv with scope:=relabel scope X.env }) (compPost (model X.prog X.w) X.A X.xe use Q acc cenv.locals) s₄) X.xe s₃) X.xe s2:=by
 have hcell:∀y∈scope.names,y.2≠.cell:=fun y hy=>(c.chk y hy).1;refine wpAny_newObj_type (wpAny_newFunctionEnv hcell (by intro y hy;simp at hy) (fun h₁ hns₁ hsb₁=>?_) c.kind);dsimp only at hns₁ hsb₁ ⊢;generalize hH2:s2.heap.push { cls:=.type "list",dict:=none,data:=.seq ([]:List Value).toArray }=G2 at hns₁ hsb₁ ⊢;have hC:G2.objs.size=s2.heap.objs.size+1:=by rw[<-hH2,Heap.size_push]
 have hDC:s2.heap.objs.size≠G2.objs.size:=by rw[hC];exact z1o (z3b _)
 have hCle:s2.heap.objs.size<=G2.objs.size:=by rw[hC];exact z37 _
 have old:∀b o,s2.heap.get? b=some o->h₁.get? b=some o:=fun b o e=>hsb₁.extBut b o (by rw[hC];exact z1o (Nat.lt_succ_of_lt (z1l e))) (z1i _ (hH2▸z1i _ e));have hacc:h₁.PlainList s2.heap.objs.size #[]:=⟨_,hsb₁.extBut _ _ hDC (z1i _ (hH2▸z1w _ rfl))⟩
 generalize hDl:s2.heap.objs.size=Dl at hDC hCle hacc;generalize hCC:G2.objs.size=C at hDC hCle hns₁ hsb₁ hC ⊢;have hfl:∀b∈fp,b<Dl:=fun b hb=>by obtain⟨o,e,_⟩:=T.obj 0 _ st2 b hb;rw[<-hDl];exact z1l e
 have hHD:H2 Dl=none:=I2.hok.fresh (by rw[hDl];exact z07 _);have hDfs:Dl∉frs X.stack:=fun z=>by
   have z':=I2.stkFree Dl z;rcases z1e.mp (I2.stkSub Dl z)with e | e
   · have:=I2.lt;rw[hDl,<-e]at this;exact z20 _ this
   · exact I2.nofs (by rw[hDl];exact z07 _) e
 generalize hX':kg X (x::N') scope s2 H2 C fp=X';have I3:Inv X' [] (none::fr.map (ze4 σ)) H2 { s2 with heap:=h₁,toks:=s2.toks+([]:List (Str×Value)).length }:=hX'▸c.start I2 f2 (by rw[hDl];exact hfl) (by rw[hDl];exact hCle) old hns₁;have hEf:EnvR X.K X.mg ρ1 H2 (none::fr.map (zg7 ev)) (none::fr.map (ze4 σ)):=by
   refine⟨by simp,fun i d q=>?_⟩;cases i with
   |zero=>simp at q
   | succ i=>
     have q:(fr.map (zg7 ev))[i]? = some (some d):=by simpa using q
     rw[z1r]at q;cases ej:fr[i]? with
     |none=>rw[ej]at q;cases q
     | some jj=>
       rw[ej]at q;have q:zg7 ev jj=some d:=by simpa using q
       have hv:ev[jj]? = some (some d):=by
         unfold zg7 at q;split at q
         · rename_i o ho;rw[ho,q]
         · cases q
       obtain⟨v,e1,r⟩:=hE1.at_ jj d hv;refine⟨v,?_,r⟩;show(fr.map (ze4 σ))[i]? = some (some v);rw[z1r,ej];show some (ze4 σ jj)=_;unfold ze4;rw[e1]
 have eA:X'.A=X.A:=by rw[<-hX'];rfl
 have eP:X'.prog=X.prog:=by rw[<-hX'];rfl
 have eW:X'.w=X.w:=by rw[<-hX'];rfl
 have eK:X'.K=X.K:=by rw[<-hX'];rfl
 have eM:X'.mg=X.mg:=by rw[<-hX'];rfl
 have eEx:X'.ex=fp:=by rw[<-hX'];rfl
 have eS0:X'.s₀=s2:=by rw[<-hX'];rfl
 have eH0:X'.H₀=H2:=by rw[<-hX'];rfl
 have eFs:X'.fs=frs X.stack:=by rw[<-hX'];rfl
 have eL:X'.env.locals=C:=by rw[<-hX'];rfl
 have ePn:X'.pn=[]:=by rw[<-hX'];rfl
 have eEnv:X'.env=compEnvC scope (zf2 X.env.cells scope.names []) C X.env:=by rw[<-hX'];rfl
 have eCalm:X'.calm=true:=by rw[<-hX'];exact hc
 have eXe:X'.xe=fun _ _=>False:=by rw[<-hX'];rfl
 have pgx:PG X' (.Name x px) (zft 0):=by rw[<-hX'];exact zcj c.nd rfl (.inl (lookup_relabel_local c.hx)) (.inr (lookup_relabel_local c.hx))
 have fel:FE X' elt g:=hX'▸helt C;have ftl:FT X' ifs cn:=hX'▸hif C;have cellLt:∀y a,X'.env.cells.lookup y=some a->a<Dl:=fun y a e=>by rw[eEnv]at e;obtain⟨v,q⟩:=I2.cell y a (zca (fun _ _ h=>by cases h) y a e);rw[<-hDl];exact q.lt
 have stat:∀{H':Hp}{pl:zAO},(∀b∈fp,H' b=none)->(∀p∈pl,∀b∈fp,p.1≠b)->∀b∈fp,zms X' pl H' b:=fun {H' pl} hn hp b hb=>
   ⟨hn b hb,by rw[eL];exact z1o (z1d (hfl b hb) hCle),by rw[eFs];intro z;rcases z1e.mp (I2.stkSub b z)with e | e;exact(f2 b hb).2.1 e;exact(f2 b hb).2.2.1 e,.inl (by rw[eEx];exact hb),fun y a e=>by
     rw[eEnv]at e;exact(f2 b hb).2.2.2.2.1 y a (zca (fun _ _ h=>by cases h) y a e),fun p hpp=>hp p (by rw[ePn]at hpp;simpa using hpp) b hb⟩
 have loop:∀s₃:Shared,s₃={ s2 with heap:=h₁,toks:=s2.toks+([]:List (Str×Value)).length } ->
     codeAny (model X.prog X.w) X.A (.compLoop (.ListComp elt [⟨.Name x px,l,ifs,0⟩] scope pos) 0 (.ref it) (.ref Dl) (compEnvC scope (zf2 X.env.cells scope.names []) C X.env))
       (compPost (model X.prog X.w) X.A X.xe use Q (.ref Dl) C) s₃:=by
   rintro s₃ rfl;refine codeAny_compLoop_tests (zwu X X' us o cn g (fr.map (zg7 ev)) (fr.map (ze4 σ)) fp tn Dl ρ1 H2 ds S2) ?_ (us.length-0)
     ⟨0,ρ1,H2,[],[],[],ds,S1,none,rfl,z1y _,I3,T.keep _ _ _ st2 (fun b hb o e=>old b o e),fun b hb=>(f2 b hb).1,hHD,hacc,.nil,Ext.refl _ _,hS1,RepL.nil,z07 _,q2,rfl⟩
   intro m st hI;generalize notedBy (model X.prog X.w) X.A (compEnvC scope (zf2 X.env.cells scope.names []) C X.env) (fun e s'=>compPost (model X.prog X.w) X.A X.xe use Q (.ref Dl) C (.error e) s')=EE;obtain⟨i,ρ',H',ys,its,acc,rest,Si,w,rfl,hi,I',tni,hfp',hD',⟨nn,hpl⟩,rv,E',hSi,ra,hal,hcl,hds⟩:=hI;have Ip:Inv X' [(Dl,{ cls:=.type "list",data:=.seq (List.toArray its) nn })] (w::fr.map (ze4 σ)) H' st:=I'.pins_of fun p hp=>by rw[z05.mp hp];exact⟨hpl,hD',by rw[eL];exact hDC,by rw[eFs];exact hDfs,fun v z=>by cases z⟩
   have hnp:∀p∈[(Dl,({ cls:=.type "list",data:=.seq (List.toArray its) nn }:Obj))],∀b∈fp,p.1≠b:=fun p hp b hb=>by rw[z05.mp hp];exact z3v (z1o (hfl b hb))
   have gk:=zoe hcl;obtain⟨srcI,srcE⟩:=src ρ' H' Si E' hSi gk;by_cases hlt:i<us.length
   · rw[z18 hlt,zjl gk]at hcl;obtain⟨⟨ok,Sc⟩,qc,hcl⟩:=z8 hcl;obtain⟨go,yl⟩:=srcI i _ (z08 hlt);have ti:=T.item X' eP eW eK eCalm i [(Dl,{ cls:=.type "list",data:=.seq (List.toArray its) nn })] st (w::fr.map (ze4 σ)) H' EE Ip (stat hfp' hnp) tni go;rw[eA]at ti;refine thn ti fun r s4 ⟨u,hr,h4⟩=>?_;subst hr;dsimp only;show wpAny (model X.prog X.w) X.A (letOwnedTupleGo (.Name x px) (.ref it) u >>= fun _=>assign (.Name x px) (compEnvC scope (zf2 X.env.cells scope.names []) C X.env) u) _ _ _;refine z1v (thn h4 fun _ s5 ⟨xv,H5,I5,r5,y5,tn5,fp5⟩=>?_);obtain⟨eH5,rx0⟩:=yl _ _ y5;subst eH5;have I5':=I5.pinned (stat fp5 hnp) (T.obj _ _ tn5);have as5:=pgx _ s5 _ H5 _ u (fun σ' H'=>H'=H5/\σ'=(w::fr.map (ze4 σ)).set 0 (some xv)) I5' r5 ⟨rfl,rfl⟩;rw[eP,eW,eA,eEnv,eXe]at as5;refine z24 as5 (fun _ s6 ⟨σ6,H6,I6,eH6,eσ6⟩=>?_) (fun _ _ z=>False.elim z);subst eH6 eσ6;have hE6:EnvR X.K X.mg ρ' H6 (some us[i]::fr.map (zg7 ev)) (some xv::fr.map (ze4 σ)):=(hEf.mono E').set (i:=0) rx0;have tc6:=zvi ftl (Q:=fun b H7=>b=ok/\∃ρ7,Ext ρ' H6 ρ7 H7/\StOk X.K X.mg ρ7 H7 Sc) I6 ⟨ρ',_,Si,ok,Sc,by rw[eK,eM];exact hE6,by rw[eK,eM];exact hSi,qc,fun ρ7 H7 E7 hS7=>⟨rfl,ρ7,E7,by rw[eK,eM]at hS7;exact hS7⟩⟩;rw[eP,eW,eA,eEnv,eXe]at tc6;refine z24 tc6 (fun ok' s6 ⟨H6,I6,eok,ρ6,E6,hS6⟩=>?_) (fun _ _ z=>False.elim z);subst eok;have hE6:=hE6.mono E6;have hpin6:=I6.pin (Dl,{ cls:=.type "list",data:=.seq (List.toArray its) nn }) (z1f _ (z2n _ (z05.mpr rfl)));cases ok' with
     | false=>
       have hcl:zbe us o cn g (fr.map (zg7 ev)) (us.drop (i+1)) Sc=some (rest,S2):=hcl;rw[z10 z16];have I8:Inv X' [] (some xv::fr.map (ze4 σ)) H6 s6:=I6.pins_of fun p hp=>by cases hp
       have tn8:tn (i+1) s6.heap:=T.keep _ _ _ tn5 fun b hb o e=>(I6.pin (b,o) (z1f _ (z1f _ (kr hb e)))).1;refine⟨us.length-(i+1),by omega,i+1,ρ6,H6,ys,its,acc,rest,Sc,_,rfl,by omega,I8,tn8,fun b hb=>?_,hpin6.2.1,⟨nn,hpin6.1⟩,rv,E'.trans E6,hS6,ra.mono E6,by omega,hcl,hds⟩;obtain⟨o,e,dd⟩:=T.obj _ _ tn5 b hb;exact(I6.pin (b,o) (z1f _ (z1f _ (kr hb e)))).2.1
     | true=>
       rw[z1t rfl];have hcl:(g (some us[i]::fr.map (zg7 ev)) Sc).bind (fun q=>(zbe us o cn g (fr.map (zg7 ev)) (us.drop (i+1)) q.2).bind fun r=>some (q.1::r.1,r.2))=some (rest,S2):=hcl;obtain⟨⟨yv,Sn⟩,qe,hcl⟩:=z8 hcl;obtain⟨⟨rest',Se⟩,qr,hcl⟩:=z8 hcl;cases hcl;have el6:=fel _ s6 _ H6 (fun v H7=>∃ρ7,Ext ρ6 H6 ρ7 H7/\StOk X.K X.mg ρ7 H7 Sn/\Rep X.K X.mg ρ7 H7 yv v) I6 ⟨ρ6,_,Sc,yv,Sn,by rw[eK,eM];exact hE6,by rw[eK,eM];exact hS6,qe,fun v ρ7 H7 E7 hS7 r7=>⟨ρ7,E7,by rw[eK,eM]at hS7;exact hS7,by rw[eK,eM]at r7;exact r7⟩⟩;rw[eP,eW,eA,eEnv,eXe]at el6;refine z24 el6 (fun u7 s7 ⟨v7,H7,I7,r7,ρ7,E7,hS7,rp7⟩=>?_) (fun _ _ z=>False.elim z);have hpin:=I7.pin (Dl,{ cls:=.type "list",data:=.seq (List.toArray its) nn }) (z1f _ (z2n _ (z05.mpr rfl)));have hvl:=rv.length;have hral:=ra.length;refine wpAny_list_append_plain ⟨nn,hpin.1⟩ (fun h8 hp8 hsb8=>?_) (by rw[z1h];omega);have I8:Inv X' [] (some xv::fr.map (ze4 σ)) H7 { s7 with heap:=h8 }:=by
         have I7':Inv X' [] (some xv::fr.map (ze4 σ)) H7 s7:=I7.pins_of fun p hp=>by cases hp
         exact I7'.turned (it:=Dl) (t':=s7.toks) (fun b o hb e=>(hsb8.2 b hb).trans e) hpin.2.1 (by rw[eL];exact hDC) (.inr (by rw[eS0,hDl];exact z07 _)) (fun y a e=>z1o (cellLt y a e)) (fun p hp=>by rw[ePn]at hp;cases hp)
       have tn8:tn (i+1) h8:=T.keep _ _ _ tn5 fun b hb o e=>by have:=(I7.pin (b,o) (z1f _ (z1f _ (kr hb e)))).1;exact(hsb8.2 b (z1o (hfl b hb))).trans this
       refine⟨us.length-(i+1),by omega,i+1,ρ7,H7,ys++[v7],its++[u7],acc++[yv],rest',Sn,_,rfl,by omega,I8,tn8,fun b hb=>?_,hpin.2.1,?_,rv.append (.cons r7 .nil),(E'.trans E6).trans E7,hS7,((ra.mono E6).mono E7).append (RepL.cons rp7 RepL.nil),by simp;omega,qr,by simp[hds]⟩
       · obtain⟨o,e,dd⟩:=T.obj _ _ tn5 b hb;exact(I7.pin (b,o) (z1f _ (z1f _ (kr hb e)))).2.1
       · rw[show(its++[u7]).toArray=its.toArray.push u7 by simp];exact hp8
   · have ei:i=us.length:=by omega
     have td:=T.done X' eP eW eK eCalm i [(Dl,{ cls:=.type "list",data:=.seq (List.toArray its) nn })] st (w::fr.map (ze4 σ)) H' EE Ip (stat hfp' hnp) tni (srcE i (by omega));rw[eA]at td;refine thn td fun r s4 ⟨hr,I4⟩=>?_;subst hr;dsimp only;rw[z25 (by omega),zmb gk]at hcl;cases hcl;rw[z1z]at hds;subst hds;obtain⟨mm,hns,_⟩:=id I4.loc;rw[eL]at hns;have hpin:=I4.pin (Dl,{ cls:=.type "list",data:=.seq (List.toArray its) nn }) (z1f _ (z05.mpr rfl));have hHC:H' C=none:=by have:=I4.free;rw[eL]at this;exact this
     have bs:=I4.base;rw[eFs,eEx,eH0,eS0]at bs;have hok4:=I4.hok;rw[eP,eW]at hok4;have os4:=I4.os;rw[eS0]at os4;have hvl:=rv.length;have hral:=ra.length;exact fin Dl C s4 H' ρ' mm ys its nn (by rw[hDl];exact z07 _) hCle hDC hns hHC bs hok4 os4 I4.bare hpin.1 hD' rv ra (by omega) E' hSi
 exact codeAny_compStart_list (loop _ rfl) (T.self X.A 0 _ _ _ (T.keep _ _ _ st2 (fun b hb o e=>old b o e)) (loop _ rfl))
theorem zsh(I2:Inv X pins σ H2 s2)(f2:∀b∈fp,zms X pins H2 b){Q:VK}(kk:∀l ys ρ' H',Ext ρ1 H2 ρ' H'->StOk X.K X.mg ρ' H' S2->H' l=none->RepL X.K X.mg ρ' H' ds ys->Q (.ref l) (upd H' l (.lst ys))):Fin X s2 H2 fp ρ1 ds S2 none (EP X pins σ Q):=by
 intro Dl C s4 H' ρ' mm ys its nn hDl2 hCle hDC hns hHC bs hok4 os4 bare4 hpin hD' rv ra hz E' hSi;refine⟨mm,hns,fun h' hs'=>?_⟩;have nC:∀b o,s2.heap.get? b=some o->b≠C:=fun b o e z=>by have:=z1l e;rw[z]at this;exact z20 _ (z1d this (z1u hDl2 hCle))
 have un:Un (frs X.stack) fp H2 H' s2.heap h' :=
   ⟨fun b o e n h1 h2=>(hs'.2 b (nC b o e)).trans (bs.keep b o e n h1 h2),fun b o e n h1 h2=>by
     obtain⟨sl,q⟩:=bs.slot b o e n h1 h2;exact⟨sl,(hs'.2 b (nC b o e)).trans q⟩,bs.free,fun b o e h2=>by
     obtain⟨o',q⟩:=bs.there b o e h2;exact⟨o',(hs'.2 b (nC b o e)).trans q⟩,bs.tups,bs.frzs,bs.tbls⟩
 have I9:Inv X pins σ H' { s4 with heap:=h' }:=I2.call' (s':={ s4 with heap:=h' }) os4 un (zgn hok4 hs' hHC) bare4 fun b hb=>by obtain⟨_,a1,a2,a3,a4,a5⟩:=f2 b hb;exact⟨a3,a1,a4,a5⟩
 have I10:Inv X pins σ (upd H' Dl (.lst ys)) { s4 with heap:=h' }:=Inv.track (its:=its) (n:=nn) I9 hD' ((hs'.2 Dl hDC).trans hpin) rv hz (.inr (z1u I2.sz hDl2)) (z3v (z1o (z1d I2.lt hDl2)))
   (fun y a e=>by
     obtain⟨v,q⟩:=I2.cell y a e;exact z1o (z1d q.lt hDl2)) (fun q hq=>z1o (z1d (z1l (I2.pin q hq).1) hDl2))
 exact⟨.ref Dl,upd H' Dl (.lst ys),I10,rfl,kk Dl ys ρ' H' E' hSi hD' ra⟩
end
def zmu(f:E):Src:=fun ev S=>(f ev S).bind fun p=>match p.1 with
 | .int j=>if -(2^62)<=j/\j<2^62/\j<=(sizeLine:Int)then some ((qo 0 j.toNat,none),p.2)else none
 |_=>none
section
variable {X:Cx}{tg l:Expr}{f:E}
theorem zm5{p2 p3:Pos}(hm:X.mg "range"=none)(hl:FE X l f)(hg:Gl X "range":=by rfl)(hst:starEach [l] X.env=[(false,eval l X.env)]:=by exact q0 rfl):zw9 X tg (.Call (.Name "range" p2) [l] [] p3) (zmu f):=by
 intro pins s σ H R I h;obtain⟨ρ,ev,S,us,o,S1,hE,hS,hf,k⟩:=h;obtain⟨⟨y,S2⟩,q1,hf⟩:=z8 hf;cases y with
 | int j=>
   dsimp only at hf;split at hf
   · rename_i hj;cases hf;refine zff hg hm (za hl zb hst) hst pins s σ H R I ⟨ρ,ev,S,[.int j],S1,hE,hS,by simp only[aC,aN,q1,Option.bind_some],fun vs ρ1 H1 E1 hS1 r1=>?_⟩;unfold RepL at r1;obtain⟨v,r,rfl,r2,r3⟩:=r1;unfold RepL at r3;subst r3;have hlen:(qo 0 j.toNat).length=j.toNat:=by simp[qo]
     refine⟨j,by rw[show v=.int j from r2],hj.1,hj.2.1,k _ ρ1 H1 E1 hS1 (fun ρ' H' S' E' hS' _=>⟨fun i d hd=>?_,fun i hi=>by rw[hlen]at hi;exact hi⟩) fun _ _ _ _=>by rw[hlen];omega⟩;have hi:i<j.toNat:=by rw[<-hlen];exact(z06.mp hd).1
     refine⟨hi,fun xv H5 ⟨e,y⟩=>⟨e,?_⟩⟩;have:d=.int (0+(i:Int)):=by simp only[qo,z1r,List.getElem?_range hi,Option.map_some,Option.some.injEq]at hd;exact hd.symm
     subst this;rw[y];rfl
   · cases hf
 |_=>cases hf
end
open Classical in
def eGd(p:Ev->Prop)(f:E):E:=fun ev S=>if p ev then f ev S else none
theorem zoc{p:Ev->Prop}{f:E}{ev:Ev}{S:Sto}{r:D×Sto}(h:eGd p f ev S=some r):p ev/\f ev S=some r:=by
 unfold eGd at h;split at h
 · rename_i e;exact⟨e,h⟩
 · cases h
theorem zv5{p:Ev->Prop}{f:E}{ev:Ev}{S:Sto}(h:p ev):eGd p f ev S=f ev S:=by unfold eGd;rw[z1t h]
def yu(fr:List Nat)(f:Src)(c:B)(g:E):E:=fun ev S=>(f ev S).bind fun p=>(zbe p.1.1 p.1.2 c g (fr.map (zg7 ev)) p.1.1 p.2).map fun q=>(.lst q.1,q.2)
def zpv(fr:List Nat)(f:Src)(c:B)(g:E):E:=fun ev S=>(f ev S).bind fun p=>(zbe p.1.1 p.1.2 c g (fr.map (zg7 ev)) p.1.1 p.2).map fun q=>(.obj q.2.length,q.2++[.lst q.1])
section
variable {X:Cx}{scope:Scope}{x:Str}{N':List Str}{fr:List Nat}{elt l:Expr}{ifs:List Expr}{px pos py spos:Pos}{yy:Str}{f:Src}{g:E}{cn:B}{p:Ev->Prop}{iy:Nat}
def Blk(X:Cx)(x:Str)(N':List Str)(scope:Scope)(p:Ev->Prop)(P:Cx->Prop):Prop:=∀{pins σ H s ρ ev fp C},Inv X pins σ H s->EnvR X.K X.mg ρ H ev σ->p ev->(∀b∈fp,zms X pins H b)->P (kg X (x::N') scope s H C fp)
theorem ztv{K:Frag}{mg:zMg}{ρ:List Addr}{H:Hp}{S:Sto}{l:Addr}{ys:List V}{ds:List D}(hS:StOk K mg ρ H S)(hn:H l=none)(ra:RepL K mg ρ H ds ys):Ext ρ H (ρ++[l]) (upd H l (.lst ys))/\StOk K mg (ρ++[l]) (upd H l (.lst ys)) (S++[.lst ds])/\Rep K mg (ρ++[l]) (upd H l (.lst ys)) (.obj S.length) (.ref l):=by have ea:=zao hS (.lst ys) hn;refine⟨ea,hS.add hn ⟨ys,ql,ra.mono ea⟩,?_⟩;unfold Rep;refine⟨l,rfl,?_⟩;rw[z1a (by rw[hS.len]<;>exact z07 _),hS.len];simp
theorem zvv{P:Cx->Prop}(c:CompOk X scope x N' fr)(src:zw9 X (.Name x px) l f)(hb:Blk X x N' scope p P)(hif:∀s₀ H₀ C ex,P (kg X (x::N') scope s₀ H₀ C ex)->FT (kg X (x::N') scope s₀ H₀ C ex) ifs cn)(helt:∀s₀ H₀ C ex,P (kg X (x::N') scope s₀ H₀ C ex)->FE (kg X (x::N') scope s₀ H₀ C ex) elt g)
   (hc:X.calm=true:=by rfl) (hs:∀v,foldedSetIterable l X.env v=pure v:=by intro _;rfl) (new:Bool):FE X (.ListComp elt [⟨.Name x px,l,ifs,0⟩] scope pos) (eGd p (if new then zpv fr f cn g else yu fr f cn g)):=by
 intro pins s σ H Q I h;obtain⟨ρ,ev,S,d,S',hE,hS,hf,k⟩:=h;obtain⟨hp,hf⟩:=zoc hf;obtain⟨⟨us,o⟩,S1,ds,S2,q1,q2,hd⟩:∃(w:List D×Option Nat) (S1:Sto) (ds:List D) (S2:Sto),f ev S=some (w,S1)/\zbe w.1 w.2 cn g (fr.map (zg7 ev)) w.1 S1=some (ds,S2)/\(if new then (d,S')=(.obj S2.length,S2++[.lst ds])else (d,S')=(.lst ds,S2)):=by
   cases new
   · obtain⟨⟨w,S1⟩,q1,hf⟩:=z8 hf;obtain⟨⟨ds,S2⟩,q2,hf⟩:=zbs hf;exact⟨w,S1,ds,S2,q1,q2,hf.symm⟩
   · obtain⟨⟨w,S1⟩,q1,hf⟩:=z8 hf;obtain⟨⟨ds,S2⟩,q2,hf⟩:=zbs hf;exact⟨w,S1,ds,S2,q1,q2,hf.symm⟩
 rw[eval_ListComp];refine wpAny_comprehension_free (use:=none) rfl hs (zeq fun p hp e=>I.ok.has p.1 (.inl ((c.chk p hp).2.1 e))) c.kind (fun y hy e=>(c.chk y hy).2.2 e) ?_;refine thn (src pins s σ H (fun J H1=>∃ρ1,Ext ρ H ρ1 H1/\StOk X.K X.mg ρ1 H1 S1/\zsy X.K X.mg J us o ρ1 H1/\(∀pins σ s,Inv X pins σ H1 s->us.length<=sizeLine)) I ⟨ρ,ev,S,us,o,S1,hE,hS,q1,fun J ρ1 H1 E1 hS1 sk hz=>⟨ρ1,E1,hS1,sk,hz⟩⟩) fun v s1 h1=>thn h1 fun itv s2 h2=>?_;obtain⟨it,fp,tn,J,H2,e,I2,T,st2,f2,ρ1,E1,hS1,sk,hz⟩:=h2;subst e;have hE1:=hE.mono E1;refine zma c hc (fun C=>hif _ _ _ _ (hb I2 hE1 hp f2)) (fun C=>helt _ _ _ _ (hb I2 hE1 hp f2)) I2 T st2 f2 hE1 hS1 sk (hz _ _ _ I2) q2 (zsh I2 f2 fun l ys ρ' H' E' hS' hn ra=>?_);cases new
 · cases hd;exact k _ ρ' _ (E1.trans (E'.trans (kf hS' _ hn))) (hS'.new _ hn) (Rep.lst (s:=hS') hn ra)
 · cases hd;obtain⟨ea,sa,rr⟩:=ztv hS' hn ra;exact k _ _ _ (E1.trans (E'.trans ea)) sa rr
end
section
variable {X:Cx}{scope:Scope}{x:Str}{N':List Str}{fr:List Nat}{elt l:Expr}{ifs:List Expr}{px pos py spos:Pos}{yy:Str}{f:Src}{g:E}{cn:B}{iy:Nat}
theorem zvs{e:Expr}{f f':E}(h:FE X e f)(m:∀ev S r,f' ev S=some r->f ev S=some r):FE X e f':=fun pins s σ H Q I ⟨ρ,ev,S,d,S',hE,hS,hf,k⟩=>h pins s σ H Q I ⟨ρ,ev,S,d,S',hE,hS,m _ _ _ hf,k⟩
theorem zyw(new:Bool)(c:CompOk X scope x N' fr)(src:zw9 X (.Name x px) l f)(hif:∀s₀ H₀ C ex,FT (kg X (x::N') scope s₀ H₀ C ex) ifs cn)(helt:∀s₀ H₀ C ex,FE (kg X (x::N') scope s₀ H₀ C ex) elt g)
   (hc:X.calm=true:=by rfl) (hs:∀v,foldedSetIterable l X.env v=pure v:=by intro _;rfl):FE X (.ListComp elt [⟨.Name x px,l,ifs,0⟩] scope pos) (if new then zpv fr f cn g else yu fr f cn g) :=
 zvs (zvv (p:=fun _=>True) (P:=fun _=>True) c src (fun _ _ _ _=>trivial) (fun _ _ _ _ _=>hif _ _ _ _) (fun _ _ _ _ _=>helt _ _ _ _) hc hs new) fun _ _ _ h=>(zv5 trivial).trans h
theorem zn9(c:CompOk X scope x N' fr)(src:zw9 X (.Name x px) l f)(hif:∀s₀ H₀ C ex,FT (kg X (x::N') scope s₀ H₀ C ex) ifs cn)(helt:∀s₀ H₀ C ex,FE (kg X (x::N') scope s₀ H₀ C ex) elt g)
   (hc:X.calm=true:=by rfl) (hs:∀v,foldedSetIterable l X.env v=pure v:=by intro _;rfl):FE X (.ListComp elt [⟨.Name x px,l,ifs,0⟩] scope pos) (yu fr f cn g):=zyw false c src hif helt hc hs
end
def zr2(j n:Nat)(x:Str)(t:LT)(is:List Nat):G:=fun ds S=>if ds.length=n then (match S[j]? with
 |some (.tab x' q)=>if x'=x/\q=t.qual then (zoj (ds.map some) is).map fun vs=>(.clo t vs,S)else none
 |_=>none)else none
section
variable {X:Cx}{pins:zAO}{σ:L2.St}{H H':Hp}{s:Shared}{t:LT}{cl:zLA}{is:List Nat}
theorem ztc{fs:List Addr}{h h':Heap}(u:Un fs [] H H' h h')(hn:∀b∈cl.map (·.2),H' b=none)(new:∀b∈cl.map (·.2),h.get? b=none):Un fs [] H (trk H' h' cl) h h':=by
 have out:∀{b:Addr}{v:HO},H' b=some v->trk H' h' cl b=some v:=fun {b v} e=>by unfold trk;rw[jo fun z=>by rw[hn b z]at e;cases e];exact e
 refine⟨u.keep,u.slot,fun b o e n hx=>?_,u.there,fun b xs e=>out (u.tups b xs e),fun b o v e=>out (u.frzs b o v e),fun b ps e=>let⟨more,q⟩:=u.tbls b ps e;⟨more,out q⟩⟩;unfold trk;rw[jo fun z=>by rw[new b z]at e;cases e];exact u.free b o e n hx
end
section
variable {P:Program}{w:World}{K:Frag}{mg:zMg}{base:Heap}{x qual:Str}{st:Stmt}{ps:List Str}{k j:Nat}{dV:Value}{f:Addr}{fd:FuncData}{t:LT}{is:List Nat}{e:Expr}{p2:Pos}
theorem FunD.okR(F:FunD K x qual st f fd dV){y:Str}(hm:mg y=some (.ref f))(S:FnScope ps ps (zj st))(hst:xk st=[.Return (some e) p2])
   (hpe:∀(cdv:Value),zi1 K mg y cdv->∀(A:Around) (outer:List Env) (s:Shared) (H:Hp) (E:XK),
     ∃cl,CapsOk (zgj CX0 P w K mg base ps qual (zj st) f cdv A outer s H E) t cl is/\PE (zgj CX0 P w K mg base ps qual (zj st) f cdv A outer s H E) e (zxl K mg j y t cl)):FnOk P w K mg base CX0 (k+1) f fd ps (spG K mg (zr2 j ps.length y t is)):=by
 have co:=F.code hm;obtain⟨oc,od,kV,doc,pm,an,cdv,ct,osl,rfl,lk,hcd⟩:=F.ex;have len:∀vs H Q E,spG K mg (zr2 j ps.length y t is) vs H Q E->vs.length=ps.length:=fun vs H Q E h=>by
   obtain⟨ρ,ds,S,d,S',r,hS,hf,k⟩:=h;unfold zr2 at hf;split at hf
   · rename_i hl;rw[<-r.length];exact hl
   · cases hf
 refine⟨len,fun A outer s H args us vs Q E hr e0 hb r hsp=>?_⟩;have hl:=len _ _ _ _ hsp;obtain⟨ρ,ds,S0,d,S',rr,hS,hf,kk⟩:=hsp;have KX:K.In s.heap:=e0.mod.kin.keeps fun b o e=>(e0.bs b o e).1;have lim:s.heap.NoLimit:=e0.mod.nolimit.keeps fun b o e=>(e0.bs b o e).1;have hkind:∀y∈ps.zip us,(zj st).names.lookup y.1=some .local\/((zj st).names.lookup y.1=some .cell/\((cellsFrom (s.heap.objs.size+1) (zj st).names []).lookup y.1).isSome=true):=fun⟨n,v⟩ hy=>by
   rcases S.par n (z29 hy).1 with q | q
   · exact .inl q
   · exact .inr ⟨q,cellsFrom_some _ _ _ (.inl q)⟩
 refine codeAny_call_function hr.depth (KX _ _ lk) rfl S.co S.gen rfl (codeRec_of KX hcd) (hb _ _ _ _ ?_);refine wpAny_newFunctionEnv_cells S.kind hkind fun env he s1 x=>?_;subst he;refine⟨lim.keeps x.toInCall.keep,codeAny_func ?_⟩;have I:Inv (zgj CX0 P w K mg base ps qual (zj st) f cdv A outer s H E) [] (start ps vs) H s1:=zfs S hr.hd e0 hl r x;obtain⟨cl,C,pe⟩:=hpe cdv co A outer s H E;unfold zr2 at hf;split at hf
 · rename_i hdl;split at hf
   · rename_i x' q hj;split at hf
     · rename_i hxq;obtain⟨rfl,rfl⟩:=hxq;obtain⟨kv,hkv,hf⟩:=zbs hf;cases hf;have hE:EnvR K mg ρ H (ds.map some) (start ps vs):=by have:=EnvR.start (N:=ps) rr;rw[hdl,z3f,List.replicate_zero,z1z]at this;exact this
       rw[hst];refine wpAny_execs_cons (thn (wpAny_Return_some (thn (pe [] s1 (start ps vs) H (fun v H1=>∃a c pm ct,v=.ref a/\Ext ρ H ρ H1/\StOk K mg ρ H1 S0/\a∉ρ/\c∉ρ/\H1 a=some (.ext (zoi t cl a c pm ct))/\H1 c=some (.ext (za4 c t.qual))) I ⟨ρ,S0,hS,hj,fun a c pm ct H' E1 hS1 n1 n2 h1 h2=>⟨a,c,pm,ct,rfl,E1,hS1,n1,n2,h1,h2⟩⟩) fun u s' ⟨v,H1,J,rv,a,c,pm,ct,ev,E1,hS1,n1,n2,h1,h2⟩=>?_)) fun fl s' q=>q);subst ev;have E2:=C.ext (ρ:=ρ) J;obtain⟨cs,hcs,rk⟩:=zf3 C J (hE.mono E1) hS1 cl is kv (fun _ h=>h) (by
         rw[C.at_,<-C.names,z3g];rfl) hkv
       rw[C.names]at hcs;have new:∀b∈cl.map (·.2),s.heap.get? b=none:=fun b hb=>by obtain⟨p,hp,rfl⟩:=z1x.mp hb;exact Heap.get?_none_of_le (J.ok.cab p.1 p.2 (C.fn _ (C.names▸z21 hp)) (C.look p hp))
       refine⟨.ref a,trk H1 s'.heap cl,J.os,J.bare,ztc J.base (C.hn J) new,C.hok J,rv,kk (.ref a) ρ _ (E1.trans E2) (C.st J hS1) ?_⟩;unfold Rep;exact⟨a,cs,rfl,⟨n1,c,pm,ct,cl,n2,E2.keep _ _ h1 n1,E2.keep _ _ h2 n2,C.nodup J,hcs⟩,rk.mono E2⟩
     · cases hf
   · cases hf
 · cases hf
theorem HasDef.calR(h:HasDef K mg x st 0)(S:FnScope ps ps (zj st))(hb:zwv x x st ps)(hst:xk st=[.Return (some e) p2])
   (hpe:∀(f:Addr) (cdv:Value),zi1 K mg x cdv->∀(A:Around) (outer:List Env) (s:Shared) (H:Hp) (E:XK),
     ∃cl,CapsOk (zgj CX0 P w K mg base ps x (zj st) f cdv A outer s H E) t cl is/\PE (zgj CX0 P w K mg base ps x (zj st) f cdv A outer s H E) e (zxl K mg j x t cl)):Cal P w K mg base (k+1) x (zr2 j ps.length x t is):=by
 obtain⟨f,fd,dV,F,hm,rfl⟩:=h.ex;exact⟨f,fd,ps,[],[],[],_,F.okR hm S hst (hpe f),hm,F.kp,F.binds0 hb,.nil,fun _ _=>RepL.nil,fun args S r e=>by rw[z1z];exact e⟩
end
def zi9(kvs:List (Int×D))(k:Int)(d:D):List (Int×D):=if zay kvs k=true then kvs.map (fun p=>if p.1=k then (p.1,d)else p)else kvs++[(k,d)]
section
variable {K:Frag}{mg:zMg}{ρ:List Addr}{H:Hp}{k:Int}{d:D}{v:V}
theorem zmp:∀{kvs:List (Int×D)}{vs:List (Key×V)},vs.map (·.1)=kvs.map (fun p=>(Sum.inl p.1:Key))->(vs.any fun kv=>decide (kv.1=(Sum.inl k:Key)))=zay kvs k
 | [],[],_=>rfl
 | [],_::_,h=>by cases h
 |_::_,[],h=>by cases h
 | p::kvs,q::vs,h=>by
   rw[z1g,z1g]at h;obtain⟨h1,h2⟩:=z2a h;have h1:q.1=Sum.inl p.1:=h1;have ih:=zmp h2;unfold zay at ih ⊢;rw[List.any_cons,List.any_cons,ih,h1];congr 1;by_cases e:p.1=k
   · rw[z1c e,z1c (z2f Sum.inl e)]
   · rw[z1b e,z1b fun z=>e (z3z z)]
theorem zkm(r:Rep K mg ρ H d v):∀{kvs:List (Int×D)}{vs:List (Key×V)},vs.map (·.1)=kvs.map (fun p=>(Sum.inl p.1:Key))->RepL K mg ρ H (kvs.map (·.2)) (vs.map (·.2)) ->
   (vs.map fun kv=>if kv.1=(Sum.inl k:Key)then (kv.1,v)else kv).map (·.1)=(kvs.map fun p=>if p.1=k then (p.1,d)else p).map (fun p=>(Sum.inl p.1:Key))/\RepL K mg ρ H ((kvs.map fun p=>if p.1=k then (p.1,d)else p).map (·.2)) ((vs.map fun kv=>if kv.1=(Sum.inl k:Key)then (kv.1,v)else kv).map (·.2))
 | [],[],_,h=>⟨rfl,h⟩
 | [],_::_,h,_=>by cases h
 |_::_,[],h,_=>by cases h
 | p::kvs,q::vs,h,hr=>by as_aux_lemma=>
   rw[z1g,z1g]at h;obtain⟨h1,h2⟩:=z2a h;have h1:q.1=Sum.inl p.1:=h1;unfold RepL at hr;obtain⟨u,r',e,r1,r2⟩:=hr;obtain⟨e1,e2⟩:=z2a e;subst e2;have e1:q.2=u:=e1;subst e1;obtain⟨i1,i2⟩:=zkm r h2 r2;simp only[z1g];by_cases z:p.1=k
   · rw[z1t z,z1t (h1.trans (z2f Sum.inl z))];exact⟨by rw[i1,h1],RepL.cons r i2⟩
   · rw[z10 z,z10 (fun w=>z (z3z (h1.symm.trans w)))];exact⟨by rw[i1,h1],RepL.cons r1 i2⟩
theorem zqv(r:Rep K mg ρ H d v){kvs:List (Int×D)}{vs:List (Key×V)}(h1:vs.map (·.1)=kvs.map (fun p=>(Sum.inl p.1:Key)))(h2:RepL K mg ρ H (kvs.map (·.2)) (vs.map (·.2))) :
   (zfe vs (Sum.inl k:Key) v).map (·.1)=(zi9 kvs k d).map (fun p=>(Sum.inl p.1:Key))/\RepL K mg ρ H ((zi9 kvs k d).map (·.2)) ((zfe vs (Sum.inl k:Key) v).map (·.2)):=by
 unfold zfe zi9;rw[zmp h1];split
 · exact zkm r h1 h2
 · rw[z2h,z2h,z2h,z2h,h1];exact⟨rfl,h2.append (RepL.cons r RepL.nil)⟩
end
def ye(o i e:E):C:=fun ev S=>(e ev S).bind fun p=>(o ev p.2).bind fun q=>(i ev q.2).bind fun r=>match q.1,r.1 with
 | .obj a,.int k=>(match r.2[a]? with
   |some (.dct kvs)=>if kvs.length<sizeLine then some (.nx ev,r.2.set a (.dct (zi9 kvs k p.1)))else none
   |_=>none)
 |_,_=>none
section
variable {X:Cx}{o i e:Expr}{f g h:E}{pos:Pos}
theorem zee{k:Nat}{pos':Pos}(hr:Room k X.A)(ho:FE X o f)(hi:FE X i g)(hv:FE X e h)(hs:swapsWith e (some (.Subscript o i pos')) pos.line X.env=pure false:=by rfl) :
   FS X (.Assign [.Subscript o i pos'] e pos) (ye f g h) :=
 xi (zkt (by have:=hr.un;omega) ho hi hv hs) fun σ H D h=>by
   obtain⟨ρ,ev,S,o,S',hE,hS,hf,k⟩:=h;obtain⟨⟨d,S1⟩,q1,hf⟩:=z8 hf;obtain⟨⟨y,S2⟩,q2,hf⟩:=z8 hf;obtain⟨⟨z,S3⟩,q3,hf⟩:=z8 hf;dsimp only at q1 q2 q3 hf;split at hf
   · rename_i a kk _;split at hf
     · rename_i kvs hd;split at hf
       · rename_i hl;cases hf;refine⟨ρ,ev,S,d,S1,hE,hS,q1,fun v ρ1 H1 E1 hS1 r1=>⟨ρ1,ev,S1,_,S2,hE.mono E1,hS1,q2,fun w ρ2 H2 E2 hS2 r2=>⟨ρ2,ev,S2,_,S3,(hE.mono E1).mono E2,hS2,q3,fun t ρ3 H3 E3 hS3 r3=>?_⟩⟩⟩;unfold Rep at r2;obtain⟨p,rfl,hp⟩:=r2;have hp3:=E3.pre _ _ hp;obtain⟨vs,m1,m2,m3⟩:=hS3.ob a _ p hd hp3;have et:t=kV (Sum.inl kk):=r3;have hlen:vs.length=kvs.length:=by have:=z2f List.length m2;simpa using this
         have e0:=zbc hS3 (.dK (zfe vs (Sum.inl kk:Key) v)) hp3;refine⟨p,_,rfl,by rw[et];exact DPut.k m1 (by rw[hlen];exact hl),?_⟩;obtain⟨n1,n2⟩:=zqv (k:=kk) (((r1.mono E2).mono E3)) m2 m3;exact k σ ρ3 _ (((E1.trans E2).trans E3).trans e0) (hS3.set hp3 ⟨_,ql,n1,n2.mono e0⟩) ((((hE.mono E1).mono E2).mono E3).mono e0)
       · cases hf
     · cases hf
   · cases hf
end
end F
namespace F
open PySem L2 PySem.Spec PyProof.Rows
def zda(i:Nat)(f:E)(body:C):C:=fun ev S=>(f ev S).bind fun p=>match p.1 with
 | .obj a=>(match p.2[a]? with
   |some (.dct kvs)=>yc i body (kvs.map fun q=>.int q.1) ev (p.2.set a (.fdc kvs))
   |_=>none)
 |_=>none
theorem zn3{a:Addr}{o:Obj}{kvs:List (Key×V)}{g:TG}{tb:TS}{D:Ends}{σ:L2.St}{H:Hp}(Pv:Nat->L2.St->Hp->Prop)(h0:Pv 0 σ H)(hl:∀i σ H,Pv i σ H->H a=some (.frz o (.dK kvs)))
   (hs:∀i x σ H,(kvs.map fun q=>kV q.1)[i]? = some x->Pv i σ H->g x σ H fun σ2 H2=>tb { D with nx:=Pv (i+1),ct:=Pv (i+1),bk:=D.nx } σ2 H2) (hd:∀σ H,Pv kvs.length σ H->D.nx σ H) :
   ∃W:Nat->Nat->L2.St->Hp->Prop,(∃m,W 0 m σ H)/\∀i m σ H,W i m σ H ->
     ((Itd a o kvs).stop i H/\D.nx σ H)\/((Itd a o kvs).go i H/\∃N:L2.St->Hp->Prop,(∀σ' H',N σ' H'->∃m',m'<m/\W (i+1) m' σ' H')/\∀x H',(Itd a o kvs).yld i H x H'->g x σ H' fun σ2 H2=>tb { D with nx:=N,ct:=N,bk:=D.nx } σ2 H2):=by
 refine⟨fun i m σ H=>m=kvs.length-i/\i<=kvs.length/\Pv i σ H,⟨kvs.length,by simp,z1y _,h0⟩,?_⟩;rintro i m σ H ⟨rfl,hi,p⟩;have q:=hl i σ H p;by_cases hlt:i<kvs.length
 · refine .inr ⟨⟨q,kV kvs[i].1,by simp[hlt]⟩,Pv (i+1),fun σ' H' p'=>⟨kvs.length-(i+1),by omega,rfl,hlt,p'⟩,fun x H' y=>?_⟩;obtain⟨e,y⟩:=y;subst e;exact hs i x σ _ y p
 · have e:i=kvs.length:=by omega
   subst e;exact .inl ⟨⟨q,z07 _⟩,hd σ H p⟩
section
variable {X:Cx}{x:Str}{pos:Pos}{f:E}{body:C}
theorem zg4(i:Nat){l:Expr}{px:Pos}{sb:List Stmt}(hN:X.N.Nodup)(hl:FE X l f)(hb:FSs X sb body)(hp:PassesOwn (model X.prog X.w) X.A X.env X.xe)(hc:X.calm=true:=by rfl)(hi:X.N[i]? = some x:=by rfl)(hx:Loc X.env.scope x:=by first | exact Or.inl rfl | exact Or.inr rfl)
   (hf:X.fn x=true\/X.env.scope.names.lookup x=some .local:=by first | exact .inl rfl | exact .inr rfl | assumption) (hs:∀v,foldedSetIterable l X.env v=pure v:=by intro _;rfl) :
   FS X (.For (.Name x px) l sb [] pos) (zda i f body) :=
 xi (zh7 hp hc (zq4 hl) (zcj hN hi hx hf) hb hs) fun σ H Dn h=>by
   obtain⟨ρ,ev,S,o,S',hE,hS,hf,k⟩:=h;obtain⟨⟨d,S1⟩,q1,hf⟩:=z8 hf;cases d with
   | obj a=>
     dsimp only at hf;split at hf
     · rename_i kvs hd;refine⟨ρ,ev,S,_,S1,hE,hS,q1,fun v ρ1 H1 E1 hS1 r1=>?_⟩;unfold Rep at r1;obtain⟨p,rfl,hp1⟩:=r1;obtain⟨vs,m1,m2,m3⟩:=hS1.ob a _ p hd hp1;refine⟨p,vs,rfl,m1,fun od=>?_⟩;have e0:=zbc hS1 (.frz od (.dK vs)) hp1;have hS2:StOk X.K X.mg ρ1 (upd H1 p (.frz od (.dK vs))) (S1.set a (.fdc kvs)):=hS1.set hp1 ⟨od,vs,ql,m2,m3.mono e0⟩;have k1:=k.ext (E1.trans e0);have hlen:vs.length=kvs.length:=by have:=z2f List.length m2;simpa using this
       refine zn3 (a:=p) (o:=od) (kvs:=vs) (fun j σ' H'=>zjv X.K X.mg ρ1 (upd H1 p (.frz od (.dK vs))) i body o S' ((kvs.map fun q:Int×D=>D.int q.1).drop j) σ' H') ⟨ρ1,ev,_,Ext.refl _ _,hS2,(hE.mono E1).mono e0,hf⟩ (fun j σ' H' ⟨ρ',ev',S2,e1,_⟩=>e1.frz p od vs (z1m hp1) ql) ?_ ?_
       · rintro j y σ' H' hj ⟨ρ',ev',S2,e1,hS3,hE2,hl2⟩;have hjl:j<(kvs.map fun q:Int×D=>D.int q.1).length:=by have:=(z06.mp hj).1;rw[z1q]at this ⊢;omega
         have ed:(kvs.map fun q:Int×D=>D.int q.1).drop j=(kvs.map fun q:Int×D=>D.int q.1)[j]::(kvs.map fun q:Int×D=>D.int q.1).drop (j+1):=z18 hjl;obtain⟨y',ey,ry⟩:=(zh3 (K:=X.K) (mg:=X.mg) (ρ:=ρ') (H:=H') m2).get (z08 hjl);rw[hj]at ey;cases ey;rw[ed]at hl2;exact zgk k1 e1 hS3 hE2 ry hl2
       · intro σ' H' ha;rw[z25 (by rw[z1q,hlen];exact z07 _)]at ha;exact zc5 k1 ha
     · cases hf
   |_=>cases hf
end
def za8(S:Sto)(x y:D):Option D:=match x,y with
 | .obj a,.int k=>(match S[a]? with
   |some (.fdc kvs)=>zbb kvs k
   |_=>none)
 |_,_=>none
section
variable {K:zFr}{mg:zMg}{ρ:List Addr}{H:Hp}{S:Sto}
theorem zke:ze5 K mg zxv za8:=by
 intro ρ H S x y dx dy d Q hS rx ry e k;unfold za8 at e;split at e
 · rename_i a kk;split at e
   · rename_i kvs hd;unfold Rep at rx;obtain⟨p,rfl,hp⟩:=rx;obtain⟨o,vs,m1,m2,m3⟩:=hS.ob a _ p hd hp;have ex:y=kV (Sum.inl kk):=ry;obtain⟨v,e1,e2⟩:=zd6 m2 m3 e;refine⟨p,v,rfl,?_,k _ H (Ext.refl _ _) hS e2⟩;rw[ex,<-e1];exact .inl ⟨vs,Sum.inl kk,.inr ⟨o,m1⟩,rfl,rfl⟩
   · cases e
 · cases e
theorem zlj:∀{kvs:List (Int×D)}{vs:List (Key×V)}{k:Int},vs.map (·.1)=kvs.map (fun p=>(Sum.inl p.1:Key))->zbb kvs k=none->ze8 vs (Sum.inl k)=none
 | [],[],_,_,_=>rfl
 | [],_::_,_,h,_=>by cases h
 |_::_,[],_,h,_=>by cases h
 | p::kvs,q::vs,k,h,e=>by
   have h1:q.1=Sum.inl p.1:=(z2a h).1;have h2:vs.map (·.1)=kvs.map (fun p=>(Sum.inl p.1:Key)):=(z2a h).2;unfold zbb at e;by_cases z:p.1=k
   · rw[z1t z]at e;cases e
   · rw[z10 z]at e;rw[zax (by rw[h1];exact fun y=>z (z3z y))];exact zlj h2 e
end
def zl5(o i e:E):E:=fun ev S=>(o ev S).bind fun p=>(i ev p.2).bind fun q=>(e ev q.2).bind fun r=>match p.1,q.1 with
 | .obj a,.int k=>(match p.2[a]?,r.2[a]? with
   |some (.dct _),some (.dct kvs)=>some ((zbb kvs k).getD r.1,r.2)
   |_,_=>none)
 |_,_=>none
section
variable {X:Cx}{a b o i e:Expr}{f g h:E}{pos apos cpos:Pos}
theorem zn7{k:Nat}(hr:Room k X.A)(ha:FE X a f)(hb:FE X b g)(hs:zzh b:=by exact fun _ _=>rfl):FE X (.Subscript a b pos) (e2s za8 f g) :=
 jc (zq8 (by have:=hr.un;omega) ha hb hs) fun _ _ _ h=>t2 zke h
theorem zsa{k:Nat}(hr:Room k X.A)(ho:FE X o f)(hi:FE X i g)(hv:FE X e h)(m:M2 X o "get" apos i e cpos:=by exact⟨rfl,rfl,rfl,rfl⟩):FE X (.Call (.Attribute o "get" apos) [i,e] [] cpos) (zl5 f g h) :=
 jc (znk (by have:=hr.un;omega) ho hi hv m) fun σ H Q hh=>by
   obtain⟨ρ,ev,S,d,S',hE,hS,hf,k⟩:=hh;obtain⟨⟨y1,S1⟩,q1,hf⟩:=z8 hf;obtain⟨⟨y2,S2⟩,q2,hf⟩:=z8 hf;obtain⟨⟨y3,S3⟩,q3,hf⟩:=z8 hf;dsimp only at q2 q3 hf;cases y1 with
   |obj a=>
    cases y2 with
    |int kk=>
     dsimp only at hf;split at hf
     · rename_i kv0 kvs hd0 hd;cases hf;refine⟨ρ,ev,S,_,S1,hE,hS,q1,fun v ρ1 H1 E1 hS1 r1=>?_⟩;unfold Rep at r1;obtain⟨p,rfl,hp⟩:=r1;obtain⟨vs0,m0,_⟩:=hS1.ob a _ p hd0 hp;refine⟨p,rfl,.inl ⟨vs0,.inl m0⟩,ρ1,ev,S1,_,S2,hE.mono E1,hS1,q2,fun w ρ2 H2 E2 hS2 r2=>⟨ρ2,ev,S2,_,_,(hE.mono E1).mono E2,hS2,q3,fun t ρ3 H3 E3 hS3 r3=>?_⟩⟩;have hp3:=E3.pre _ _ (E2.pre _ _ hp);obtain⟨vs,m1,m2,m3⟩:=hS3.ob a _ p hd hp3;have ew:w=kV (Sum.inl kk):=r2;refine⟨_,by rw[ew];exact DGet.k m1,k _ ρ3 H3 ((E1.trans E2).trans E3) hS3 ?_⟩;cases e:zbb kvs kk with
       |none=>rw[zlj m2 e];exact r3
       | some d=>
         obtain⟨v,e1,e2⟩:=zd6 m2 m3 e;rw[e1];exact e2
     · cases hf
    |_=>cases hf
   |_=>cases hf
end
end F
namespace Mt
open PySem L2 F
def isI:D->Option Int
 | .int i=>some i
 |_=>none
def isS:D->Option Str
 | .str i=>some i
 |_=>none
def isP:D->Option (Int×Int)
 | .tup [.int a,.int b]=>some (a,b)
 |_=>none
def ad(k:Nat)(x y:D):D:=match k with
 |1=>(match isI x,isI y with | some i,some j=>.int (i+j) | _,_=>.non)
 |2=>(match isS x,isS y with | some i,some j=>.str (i++j) | _,_=>.non)
 |3=>(match isP x,isP y with | some p,some q=>.tup [.int (p.1*q.1%1000003),.int ((p.2*q.1+q.2)%1000003)] | _,_=>.non)
 |4=>(match isI x,isI y with | some i,some j=>.int (if j>i then j else i) | _,_=>.non)
 |_=>.non
theorem zj6(a b c:Str):a++b++c=a++(b++c):=by show Str.mk ((a.cps++b.cps)++c.cps)=Str.mk (a.cps++(b.cps++c.cps));rw[Array.append_assoc]
theorem zql(a b:Str):(a++b).length=a.length+b.length:=strLen_append a b
theorem ad1(x y:D):ad 1 x y=match isI x,isI y with | some i,some j=>.int (i+j) | _,_=>.non:=rfl
theorem ad2(x y:D):ad 2 x y=match isS x,isS y with | some i,some j=>.str (i++j) | _,_=>.non:=rfl
theorem ad4(x y:D):ad 4 x y=match isI x,isI y with | some i,some j=>.int (if j>i then j else i) | _,_=>.non:=rfl
theorem ad3(x y:D):ad 3 x y=match isP x,isP y with | some p,some q=>.tup [.int (p.1*q.1%1000003),.int ((p.2*q.1+q.2)%1000003)] | _,_=>.non:=rfl
theorem mm(a b m:Int):(a%m*b)%m=a*b%m:=by rw[Int.mul_emod,Int.emod_emod_of_dvd _ (Int.dvd_refl m),<-Int.mul_emod]
theorem mm'(a b m:Int):(b*(a%m))%m=b*a%m:=by rw[Int.mul_comm,mm,Int.mul_comm]
theorem am(a b m:Int):(a%m+b)%m=(a+b)%m:=by rw[Int.add_emod,Int.emod_emod_of_dvd _ (Int.dvd_refl m),<-Int.add_emod]
theorem zor(k:Nat)(x y z:D):ad k (ad k x y) z=ad k x (ad k y z):=by
 match k with
 |0=>rfl
 | 1=>
   simp only[ad1];cases h1:isI x<;>cases h2:isI y<;>cases h3:isI z<;>simp[isI,z39]
 | 2=>
   simp only[ad2];cases h1:isS x<;>cases h2:isS y<;>cases h3:isS z<;>simp[isS,zj6]
 | 3=>
   simp only[ad3];cases h1:isP x<;>cases h2:isP y<;>cases h3:isP z<;>simp[isP];rename_i p q r;constructor
   · rw[mm,mm',Int.mul_assoc]
   · rw[<-am (_*_) _ 1000003,mm,<-am (p.snd*_) _ 1000003,mm',am,am];congr 1;rw[Int.add_mul,Int.mul_assoc,z39]
 | 4=>
   simp only[ad4];cases h1:isI x<;>cases h2:isI y<;>cases h3:isI z<;>simp[isI]
   repeat' split
   all_goals omega
 |n+5=>rfl
def zaf(k:Nat):List D->D
 | []=>.non
 |t::r=>if k=0 then .non else r.foldl (ad k) t
theorem zcf(ts:List D):zaf 0 ts=.non:=by cases ts<;>rfl
theorem zl2(k:Nat)(a:D):∀(r:List D) (b:D),r.foldl (ad k) (ad k a b)=ad k a (r.foldl (ad k) b)
 | [],_=>rfl
 | c::r,b=>by show r.foldl (ad k) (ad k (ad k a b) c)=ad k a (r.foldl (ad k) (ad k b c));rw[zor,zl2 k a r]
theorem yz{k:Nat}(hk:k≠0){xs ys:List D}(hx:xs≠[])(hy:ys≠[]):zaf k (xs++ys)=ad k (zaf k xs) (zaf k ys):=by
 cases xs with
 |nil=>exact absurd rfl hx
 | cons x xs=>
   cases ys with
   |nil=>exact absurd rfl hy
   | cons y ys=>
     show(if k=0 then D.non else (xs++y::ys).foldl (ad k) x)=ad k (if k=0 then D.non else xs.foldl (ad k) x) (if k=0 then D.non else ys.foldl (ad k) y);rw[z10 hk,z10 hk,z10 hk,List.foldl_append,List.foldl_cons,zl2]
theorem zbh{k:Nat}(hk:k≠0)(t:D):zaf k [t]=t:=by show(if k=0 then D.non else t)=t;rw[z10 hk]
def Th(k n:Nat)(d:D):Prop:=match k with
 |1=>∃i,d=.int i
 |2=>∃z,d=.str z/\z.length<=8*n
 |3=>∃a b,d=.tup [.int a,.int b]/\0<=a/\a<1000003/\0<=b/\b<1000003
 |4=>∃i,d=.int i
 |_=>False
def Thing(k:Nat)(d:D):Prop:=match k with
 |0=>(∃i,d=.int i)\/(∃z,d=.str z/\z.length<=8)\/∃i j,d=.tup [.int i,.int j]
 |k=>Th k 1 d
theorem Th.ad{k n m:Nat}{x y:D}(hx:Th k n x)(hy:Th k m y):Th k (n+m) (ad k x y):=by
 match k,hx,hy with
 |0,h,_=>exact h.elim
 |1,⟨i,e⟩,⟨j,e'⟩=>subst e e';exact⟨_,rfl⟩
 |2,⟨i,e,h⟩,⟨j,e',h'⟩=>subst e e';exact⟨_,rfl,by rw[zql];omega⟩
 | 3,⟨a,b,e,h⟩,⟨c,d,e',h'⟩=>
   subst e e';exact⟨_,_,rfl,z19 _ (by decide),z11 _ (by decide),z19 _ (by decide),z11 _ (by decide)⟩
 |4,⟨i,e⟩,⟨j,e'⟩=>subst e e';exact⟨_,rfl⟩
 |n+5,h,_=>exact h.elim
theorem Thing.th{k:Nat}{d:D}(hk:k≠0)(h:Thing k d):Th k 1 d:=by
 match k,hk,h with
 |0,hk,_=>exact absurd rfl hk
 |k+1,_,h=>exact h
theorem ze9{k:Nat}(hk:k≠0):∀{ts:List D},ts≠[]->(∀t∈ts,Thing k t)->Th k ts.length (zaf k ts)
 | [],h,_=>absurd rfl h
 | [t],_,h=>by rw[zbh hk];exact(h t (by simp)).th hk
 | t::u::r,_,h=>by rw[show t::u::r=[t]++(u::r)from rfl,yz hk (by simp) (by simp),zbh hk];have:=((h t (by simp)).th hk).ad (ze9 hk (ts:=u::r) (by simp) fun x hx=>h x (z09 _ hx));rw[Nat.add_comm]at this;exact this
def ord(a:Bool)(xs:List D):List D:=if a=true then xs.reverse else xs
theorem y4(a:Bool)(xs:List D):(ord a xs).length=xs.length:=by unfold ord;split<;>simp
def mkD(num:Int)(a:Bool)(l t r:D)(sz ht:Int)(to ba:D):D:=.tup [.int num,.bl a,l,t,r,.int sz,.int ht,to,ba]
inductive Mk (k:Nat):D->List D->Nat->Prop where
 |non:Mk k .non [] 0
 | node {num:Int}{a:Bool}{l t r:D}{lt rt:List D}{lh rh:Nat}:Mk k l lt lh->Mk k r rt rh->Thing k t->lh<=rh+1->rh<=lh+1 ->
   Mk k (mkD num a l t r (lt.length+1+rt.length:Nat) (max lh rh+1:Nat) (zaf k (ord a (lt++t::rt))) (zaf k (ord a (lt++t::rt)).reverse)) (ord a (lt++t::rt)) (max lh rh+1)
theorem Mk.things{k d ts h}(m:Mk k d ts h):∀t∈ts,Thing k t:=by
 induction m with
 |non=>intro t ht;cases ht
 | @node num a l t r lt rt lh rh ml mr ht _ _ il ir=>
   intro x hx;have:x∈lt++t::rt:=by
     unfold ord at hx;split at hx
     · exact z3c.mp hx
     · exact hx
   rcases z1p.mp this with q | q
   · exact il x q
   · rcases z1e.mp q with rfl | q
     · exact ht
     · exact ir x q
end Mt
namespace Pg
open PySem L2 F Mt
variable {k:Nat}{d l r t:D}{ts lt rt:List D}{h lh rh:Nat}{S S1:Sto}{ev e:Ev}
theorem zov:(2:Nat)<=sizeLine:=by decide
theorem zds(i j:Int):zdc (.int i) (.int j)=some (.bl (i==j)):=rfl
theorem zh0:∀ys:List Str,zbx (ys.map D.str)=some ys
 | []=>rfl
 | y::ys=>by show(zbx (ys.map D.str)).map (fun l=>y::l)=some (y::ys);rw[zh0 ys];rfl
theorem zhy:∀(ys:List Str),(∀y∈ys,y.length=1)->(ys.map (·.length)).sum=ys.length
 | [],_=>rfl
 | y::ys,h=>by rw[z1g,List.sum_cons,zhy ys fun z hz=>h z (z09 _ hz),h y (by simp),List.length_cons];omega
theorem ztt{i:Nat}{a b:MO}(h:S[i]? = some a):(S.set i b)[i]? = some b:=z17 (z06.mp h).1
theorem zts{i j:Nat}(hij:i≠j)(b:MO):(S.set i b)[j]? = S[j]?:=z2o hij
def Ok(c:C)(ev:Ev)(S:Sto):Prop:=∃S',c ev S=some (.rt (.bl true),S')
theorem zo{i:Nat}{f:E}(h:f ev S=some (d,S1)):qv i f ev S=some (.nx (ev.set i (some d)),S1):=by simp[qv,h]
theorem zp{c:B}{a:C}(h:c ev S=some (false,S1)):sIf c a je ev S=some (.nx ev,S1):=by simp[sIf,h,je]
theorem qh{c:B}{a b:C}{o:Out}{S2:Sto}(h:c ev S=some (true,S1))(q:a ev S1=some (o,S2)):sIf c a b ev S=some (o,S2):=by simp[sIf,h,q]
theorem jb{f:E}{b:Bool}(h:f ev S=some (.bl b,S1)):bE f ev S=some (b,S1):=by simp[bE,h]
theorem zop{u:B}(h:u ev S=some (true,S1)):zcb u ev S=some (false,S1):=by simp[zcb,h]
theorem zix{u v:B}(h:u ev S=some (false,S1)):zho u v ev S=some (false,S1):=by simp[zho,h]
theorem zb3{u v:B}{b:Bool}{S2:Sto}(h:u ev S=some (true,S1))(q:v ev S1=some (b,S2)):zho u v ev S=some (b,S2):=by simp[zho,h,q]
theorem zzb{u v:B}(h:u ev S=some (true,S1)):bOr u v ev S=some (true,S1):=by simp[bOr,h]
theorem zwo{u v:B}{b:Bool}{S2:Sto}(h:u ev S=some (false,S1))(q:v ev S1=some (b,S2)):bOr u v ev S=some (b,S2):=by simp[bOr,h,q]
theorem e_2{op:D->D->Option D}{f g:E}{x y z:D}{S2:Sto}(h:f ev S=some (x,S1))(q:g ev S1=some (y,S2))(o:op x y=some z):e2 op f g ev S=some (z,S2):=by simp[e2,h,q,o]
theorem qj{op:Sto->D->D->Option D}{f g:E}{x y z:D}{S2:Sto}(h:f ev S=some (x,S1))(q:g ev S1=some (y,S2))(o:op S2 x y=some z):e2s op f g ev S=some (z,S2):=by simp[e2s,h,q,o]
theorem e_v{i:Nat}(h:ev[i]? = some (some d)):eV i ev S=some (d,S):=by simp[eV,h]
theorem e_k:eK d ev S=some (d,S):=rfl
theorem a_n:aN ev S=some ([],S):=rfl
theorem a_c{f:E}{g:As}{ds:List D}{S2:Sto}(h:f ev S=some (d,S1))(q:g ev S1=some (ds,S2)):aC f g ev S=some (d::ds,S2):=by simp[aC,h,q]
theorem zg{g:G}{a:As}{ds:List D}{S2:Sto}(h:a ev S=some (ds,S1))(q:g ds S1=some (d,S2)):zk g a ev S=some (d,S2):=by simp[zk,h,q]
theorem e_a{op:Sto->List D->Option D}{a:As}{ds:List D}(h:a ev S=some (ds,S1))(o:op S1 ds=some d):eA op a ev S=some (d,S1):=by simp[eA,h,o]
theorem ym{a:As}{ds:List D}(h:a ev S=some (ds,S1))(hl:ds.length<=16777216):zap a ev S=some (.tup ds,S1):=by have hz:sizeLine=16777216:=z14;simp[zap,eA,h,hz,hl]
theorem xz{a:As}{ds:List D}(h:a ev S=some (ds,S1))(hl:ds.length<=16777216):ya a ev S=some (.lst ds,S1):=by have hz:sizeLine=16777216:=z14;simp[ya,eA,h,hz,hl]
theorem zpu{a:As}{ds:List D}(h:a ev S=some (ds,S1))(hl:ds.length<=16777216):zfx a ev S=some (.obj S1.length,S1++[.lst ds]):=by have hz:sizeLine=16777216:=z14;simp[zfx,h,hz,hl]
theorem xa{c m:Str}{g:G}{f:E}{a:As}{i:Nat}{fs:List (Str×D)}{ds:List D}{S2 S3:Sto}(h:f ev S=some (.obj i,S1))(hi:zct c S1 (.obj i)=some (i,fs))(hm:fs.lookup m=none)(ha:a ev S1=some (ds,S2))(q:g (.obj i::ds) S2=some (d,S3)) :
   x3 c m g f a ev S=some (d,S3):=by simp[x3,h,hi,hm,ha,q]
theorem zy0{c n:Str}{f:E}{i:Nat}{fs:List (Str×D)}(h:f ev S=some (.obj i,S1))(hi:zct c S1 (.obj i)=some (i,fs))(hm:fs.lookup n=some d):zs4 c n f ev S=some (d,S1):=by simp[zs4,h,hi,hm]
theorem zv2{f g:E}{S2:Sto}(h:f ev S=some (.bl true,S1))(q:g ev S1=some (d,S2)):zs5 f g ev S=some (d,S2):=by simp[zs5,h,q]
theorem zv3{f g:E}(h:f ev S=some (.bl false,S1)):zs5 f g ev S=some (.bl false,S1):=by simp[zs5,h]
theorem zv1{f:E}{b:Bool}(h:f ev S=some (.bl b,S1)):zv4 f ev S=some (.bl !b,S1):=by simp[zv4,e1,h]
theorem add_int(i j:Int):qm (.int i) (.int j)=some (.int (i+j)):=rfl
theorem sub_int(i j:Int):y6 (.int i) (.int j)=some (.int (i-j)):=rfl
theorem ze3{x:D}{xs ys:List D}(h:(x::xs).length+ys.length<=16777216):qm (.tup (x::xs)) (.tup ys)=some (.tup (x::xs++ys)):=by have hz:sizeLine=16777216:=z14;simp only[qm,hz,z1t h]
def pl:Nat->D->Bool
 |_,.non=>true
 |_,.bl _=>true
 |_,.int _=>true
 |_,.str _=>true
 |n+1,.tup ds=>ds.all (pl n)
 |n+1,.lst ds=>ds.all (pl n)
 |_,_=>false
theorem zek{f:D->D->Option Bool}:∀{ds:List D},(∀x∈ds,f x x=some true)->eqL f ds ds=some true
 | [],_=>rfl
 |x::ds,h=>by simp[eqL,h x (by simp),zek fun y hy=>h y (z09 _ hy)]
theorem zoa:∀{n:Nat}{d:D},pl n d=true->eqN n d d=some true:=by
 intro n
 induction n with
 |zero=>intro d h;cases d<;>first | (cases h;done) | simp[eqN,eqF,zef,eqV]
 | succ n ih=>
   intro d h;cases d with
   | tup ds=>
     have h:ds.all (pl n)=true:=h;exact zek fun x hx=>ih (z12.mp h x hx)
   | lst ds=>
     have h:ds.all (pl n)=true:=h;have q:eqL (eqN n) ds ds=some true:=zek fun x hx=>ih (z12.mp h x hx);simp[eqN,q]
   |_=>first | (cases h;done) | simp[eqN,eqF,zef,eqV,zln]
theorem zq3:∀{n m:Nat}{d:D},n<=m->pl n d=true->pl m d=true:=by
 intro n
 induction n with
 |zero=>intro m d _ h;cases d<;>first | (cases h;done) | (cases m<;>rfl)
 | succ n ih=>
   intro m d hm h;cases m with
   |zero=>omega
   | succ m=>
     cases d with
     |tup ds=>exact z12.mpr fun x hx=>ih (by omega) (z12.mp h x hx)
     |lst ds=>exact z12.mpr fun x hx=>ih (by omega) (z12.mp h x hx)
     |_=>first | (cases h;done) | rfl
theorem zx1{n:Nat}{x:D}(hx:Th k n x):pl 1 x=true:=by
 match k,hx with
 |0,h=>exact h.elim
 |1,⟨i,e⟩=>subst e;rfl
 |2,⟨z,e,_⟩=>subst e;rfl
 |3,⟨a,b,e,_⟩=>subst e;rfl
 |4,⟨i,e⟩=>subst e;rfl
 |n+5,h=>exact h.elim
theorem zng{x:D}(hx:Thing k x):pl 1 x=true:=by
 match k,hx with
 |0,.inl ⟨i,e⟩=>subst e;rfl
 |0,.inr (.inl ⟨z,e,_⟩)=>subst e;rfl
 |0,.inr (.inr ⟨i,j,e⟩)=>subst e;rfl
 |k+1,h=>exact zx1 (k:=k+1) h
theorem zx7(h:pl 150 d=true):zno d d=some (.bl false):=by unfold zno;rw[zoa h];rfl
theorem jl{N n:Nat}{c:C}{ds:List D}{S S':Sto}{d:D}(hl:ds.length=n)(h:c (ds.map some++List.replicate (N-ds.length) none) S=some (.rt d,S')):z5 N n c ds S=some (d,S'):=by unfold z5;rw[z1t hl,h]
theorem zt{f:E}(h:f ev S=some (d,S1)):qk f ev S=some (.rt d,S1):=by simp[qk,h]
theorem qp{a b:C}(h:a ev S=some (.rt d,S1)):zw a b ev S=some (.rt d,S1):=by simp[zw,h]
theorem zh{a b:C}{o:Out}{S2:Sto}(h:a ev S=some (.nx e,S1))(q:b e S1=some (o,S2)):zw a b ev S=some (o,S2):=by simp[zw,h,q]
inductive Sv:D->Prop where
 |non:Sv .non
 |int (i:Int):Sv (.int i)
 |str (z:Str):Sv (.str z)
 |pair (a b:Int):Sv (.tup [.int a,.int b])
theorem zqj{n:Nat}{x:D}(hx:Th k n x):Sv x:=by
 match k,hx with
 |0,h=>exact h.elim
 |1,⟨i,e⟩=>subst e;exact .int _
 |2,⟨z,e,_⟩=>subst e;exact .str _
 |3,⟨a,b,e,_⟩=>subst e;exact .pair _ _
 |4,⟨i,e⟩=>subst e;exact .int _
 |n+5,h=>exact h.elim
theorem zhx{x:D}(hx:Thing k x):Sv x:=by
 match k,hx with
 |0,.inl ⟨i,e⟩=>subst e;exact .int _
 |0,.inr (.inl ⟨z,e,_⟩)=>subst e;exact .str _
 |0,.inr (.inr ⟨i,j,e⟩)=>subst e;exact .pair _ _
 |k+1,h=>exact zqj (k:=k+1) h
theorem zto(hts:∀x∈ts,Thing k x):Sv (zaf k ts):=by
 by_cases hk:k=0
 · subst hk;rw[zcf];exact .non
 · cases ts with
   |nil=>exact .non
   |cons x r=>exact zqj (ze9 hk (by simp) hts)
def low:Nat->Nat
 |0=>0
 |1=>1
 |h+2=>low (h+1)+low h+1
theorem zns:∀h:Nat,low h<=low (h+1)
 |0=>by decide
 |1=>by decide
 | h+2=>by show low (h+2)<=low (h+2)+low (h+1)+1;omega
theorem zd3{a b:Nat}(h:a<=b):low a<=low b:=by
 induction b with
 |zero=>rw[Nat.le_zero.mp h];exact z07 _
 | succ b ih=>
   rcases z3u a (b+1)with q | q
   · exact z1u (ih (by omega)) (zns b)
   · rw[Nat.le_antisymm h q];exact z07 _
theorem zuy{k:Nat}{d:D}{ts:List D}{h:Nat}(m:Mk k d ts h):low h<=ts.length:=by
 induction m with
 |non=>decide
 | @node num a l t r lt rt lh rh ml mr ht h1 h2 il ir=>
   rw[y4,z03,List.length_cons];rcases Nat.le_total lh rh with q | q
   · rw[Nat.max_eq_right q];cases rh with
     | zero => have:lh=0:=by omega
               subst this;show 1<=_;omega
     | succ rh=>
       show low (rh+1)+low rh+1<=_;have:=zd3 (show rh<=lh by omega);omega
   · rw[Nat.max_eq_left q];cases lh with
     | zero => have:rh=0:=by omega
               subst this;show 1<=_;omega
     | succ lh=>
       show low (lh+1)+low lh+1<=_;have:=zd3 (show lh<=rh by omega);omega
theorem za3{x j:Int}(h:0<j):q9 (.int x) (.int j)=some (.int (x%j)):=by simp[q9,F.opI,zx8,h]
theorem zen{x j:Int}(h:0<j/\j<1073741824):yb (.int x) (.int j)=some (.int (x/j)):=by simp[yb,F.opI,zy2,h]
theorem zai{x y:Int}(h:-(2^64)<x/\x<2^64):ki (.int x) (.int y)=some (.int (x*y)):=by simp only[ki,F.opI,zwy];rw[z1t (.inl h)];rfl
theorem zdo{x y:Int}(h:-(2^64)<y/\y<2^64):ki (.int x) (.int y)=some (.int (x*y)):=by simp only[ki,F.opI,zwy];rw[z1t (.inr (.inl h))];rfl
theorem zgr{n:Int}(h:n<100):∀x∈qo 0 n.toNat,∃i:Int,x=.int i/\0<=i/\i<100:=fun x hx=>by unfold qo at hx;obtain⟨i,hi,rfl⟩:=z1x.mp hx;exact⟨_,rfl,by omega,by have:=z23.mp hi;omega⟩
end Pg
namespace Pg
open PySem L2 F
noncomputable section
def lt_0:LT where
 params:={posonlyargs:=[],args:=[{ arg:="one",annotation:=none,pos:=⟨264,18,264,21⟩:PySem.Arg },{ arg:="other",annotation:=none,pos:=⟨264,23,264,28⟩:PySem.Arg }],vararg:=none,kwonlyargs:=[],kw_defaults:=[],kwarg:=none,defaults:=[]:PySem.Arguments }
 body:=(PySem.Expr.Call
  (func:=(PySem.Expr.Name "before" ⟨264,30,264,36⟩))
  (args:=[(PySem.Expr.Subscript
  (value:=(PySem.Expr.Name "one" ⟨264,37,264,40⟩))
  (slice:=(PySem.Expr.Name "KEY" ⟨264,41,264,44⟩))
  (pos:=⟨264,37,264,45⟩)),(PySem.Expr.Subscript
  (value:=(PySem.Expr.Name "other" ⟨264,47,264,52⟩))
  (slice:=(PySem.Expr.Name "KEY" ⟨264,53,264,56⟩))
  (pos:=⟨264,47,264,57⟩))])
  (keywords:=[])
  (pos:=⟨264,30,264,58⟩))
 scope:={kind:=PySem.ScopeKind.function,names:=[(PySem.Str.ofString "one",PySem.NameKind.local),(PySem.Str.ofString "other",PySem.NameKind.local),(PySem.Str.ofString "before",PySem.NameKind.free),(PySem.Str.ofString "KEY",PySem.NameKind.globalImplicit)],isGenerator:=false,isCoroutine:=false,more:=[]:PySem.Scope }
 qual:=(("by_key":Str)++".<locals>.")++"<lambda>"
 caps:=["before"]
open Classical in
def zgi:LT->Option G:=fun t=>
 none
def tabs:List (Str×Str):=[("by_key",(("by_key":Str)++".<locals>.")++"<lambda>")]
def k9:C :=
 (zw (zi8 "Wood" "adding" (eV 0) (eV 1)) (zi8 "Wood" "nodes_made" (eV 0) (eK (.int 0))))
def qx:G:=z5 2 2 k9
def zhl:C :=
 (zw (sIf (bE (e2 zbp (eV 1) (eA zfo (aC (eV 0) aN)))) (qk (e2s qf (eV 0) (eV 1))) je) (zw (qv 2 (e2 qm (e2 ki (eV 1) (eK (.int 7919))) (eK (.int 5)))) (zw (sIf (bE (e2 zck (eA zfo (aC (eV 0) aN)) (eK (.int 0)))) (qv 2 (e2 q9 (e2 qm (e2 ki (e2s qf (eV 0) (e2 q9 (e2 ki (eV 1) (eK (.int 7))) (eA zfo (aC (eV 0) aN)))) (eK (.int 48271))) (e2 ki (eV 1) (eK (.int 7919)))) (eK (.int 2147483647)))) je) (qk (e2 q9 (e2 ki (eV 2) (eV 2)) (eK (.int 2147483629)))))))
def zy:G:=z5 3 2 zhl
def zhi:C :=
 (zw (sIf (bE (e2 zdb (eV 0) (eK .non))) (qk (eK (.int 0))) je) (qk (e2s qf (eV 0) (eK (.int 5)))))
def xj:G:=z5 1 1 zhi
def zga:C :=
 (zw (qv 2 (e2 q9 (e2 ki (e2 qm (e2 q9 (eV 0) (eK (.int 2147483647))) (eK (.int 1))) (e2 qm (e2 ki (eV 1) (eV 1)) (eK (.int 48271)))) (eK (.int 2147483629)))) (qk (e2 q9 (e2 ki (eV 2) (e2 qm (eV 2) (eV 1))) (eK (.int 2147483587)))))
def z9:G:=z5 3 2 zga
def zf9:C :=
 (zw (qv 2 (e2 q9 (zk zy (aC (eV 0) (aC (eK (.int 0)) aN))) (eK (.int 4)))) (zw (sIf (bE (e2 zdc (eV 2) (eK (.int 2)))) (qk (zap (aC (e2 q9 (zk z9 (aC (eV 1) (aC (eK (.int 1)) aN))) (eK (.int 1000003))) (aC (e2 q9 (zk z9 (aC (eV 1) (aC (eK (.int 2)) aN))) (eK (.int 1000003))) aN)))) je) (zw (sIf (zho (bE (e2 zdc (eV 2) (eK (.int 0)))) (bE (e2 zdc (e2 q9 (eV 1) (eK (.int 2))) (eK (.int 0))))) (qk (e2 y6 (e2 q9 (e2 ki (e2 yb (eV 1) (eK (.int 2))) (eK (.int 982451653))) (eK (.int 1000000000000000000007))) (eK (.int 500)))) je) (qk (zsi (Str.ofString "") (aC (yu [1] (zmu (e2 qm (eK (.int 1)) (e2 q9 (e2 yb (eV 1) (eK (.int 2))) (eK (.int 3))))) ziy (e2s qf (eK (.str (Str.ofString "abcdefgh"))) (e2 q9 (zk z9 (aC (eV 1) (aC (eV 0) aN))) (eK (.int 8))))) aN))))))
def qu:G:=z5 3 2 zf9
def zev:C :=
 (sIf (zcb (bE (zfy zc8 zbp (eK (.int 0)) (eV 0) (eV 1)))) zdl je)
def jq:G:=z5 2 2 zev
def zaw:C :=
 (zw (qv 2 (zs4 "Wood" "nodes_made" (eV 0))) (zw (zi8 "Wood" "nodes_made" (eV 0) (e2 qm (eV 2) (eK (.int 1)))) (qk (e2 qm (zap (aC (eV 2) aN)) (eV 1)))))
def j8:G:=z5 3 2 zaw
def zf8:C :=
 (sIf (bE (e2 zck (eV 0) (eK (.int 2000)))) zdl je)
def xq:G:=z5 1 1 zf8
def zoo:C :=
 (zw (sIf (bE (e2 zdb (eV 0) (eK .non))) (qk (eK (.int 0))) je) (qk (e2s qf (eV 0) (eK (.int 6)))))
def jh:G:=z5 1 1 zoo
def za7:C :=
 (qk (e2 qm (eK (.int 1)) (eA znq (aC (zk jh (aC (eV 0) aN)) (aC (zk jh (aC (eV 1) aN)) aN)))))
def x4:G:=z5 2 2 za7
def zb2:C :=
 (qk (e2 zc8 (eA zws (aC (e2 y6 (zk jh (aC (eV 0) aN)) (zk jh (aC (eV 1) aN))) aN)) (eK (.int 1))))
def xp:G:=z5 2 2 zb2
def zwh:C :=
 (zw (sIf (bE (e2 zdb (eV 0) (eK .non))) (qk (eK (.int 0))) je) (qk (e2s qf (eV 0) (eK (.int 5)))))
def jw:G:=z5 1 1 zwh
def zb1:C :=
 (qk (e2 qm (e2 qm (zk jw (aC (eV 0) aN)) (eK (.int 1))) (zk jw (aC (eV 1) aN))))
def yg:G:=z5 2 2 zb1
def zey:C :=
 (qk (e2 zbp (eV 0) (eV 1)))
def kq:G:=z5 2 2 zey
def zbo:C :=
 (qk (e2 qm (eV 0) (eV 1)))
def ko:G:=z5 2 2 zbo
def zwm:C :=
 (zw (sIf (bE (e2 zdb (eV 0) (eK .non))) (qk (eK .non)) je) (qk (e2s qf (eV 0) (eK (.int 8)))))
def zcx:G:=z5 1 1 zwm
def ft:Str->Option G:=fun x=>
 if x=Str.ofString "_law_joined" then some ko else
 if x=Str.ofString "_law_before" then some kq else
 none
def zdh:C :=
 (zw (qv 4 (eV 2)) (zw (sIf (bE (e2 ji (eV 3) (eK .non))) (qv 4 (yw ft zgi (eV 0) (aC (zk zcx (aC (eV 3) aN)) (aC (eV 4) aN)))) je) (zw (sIf (bE (e2 ji (eV 1) (eK .non))) (qv 4 (yw ft zgi (eV 0) (aC (eV 4) (aC (zk zcx (aC (eV 1) aN)) aN)))) je) (qk (eV 4)))))
def yk:G:=z5 5 4 zdh
def zsl:C :=
 (zw (sIf (bE (e2 zdb (eV 0) (eK .non))) (qk (eK .non)) je) (qk (e2s qf (eV 0) (eK (.int 7)))))
def y9:G:=z5 1 1 zsl
def zf7:C :=
 (zw (qv 4 (eV 2)) (zw (sIf (bE (e2 ji (eV 1) (eK .non))) (qv 4 (yw ft zgi (eV 0) (aC (zk y9 (aC (eV 1) aN)) (aC (eV 4) aN)))) je) (zw (sIf (bE (e2 ji (eV 3) (eK .non))) (qv 4 (yw ft zgi (eV 0) (aC (eV 4) (aC (zk y9 (aC (eV 3) aN)) aN)))) je) (qk (eV 4)))))
def zam:G:=z5 5 4 zf7
def zas:C :=
 (zw (sIf (bE (e2 zdb (eV 0) (eK .non))) (qk (zap (aC (eK .non) (aC (eK .non) aN)))) je) (qk (zap (aC (zk zam (aC (eV 0) (aC (eV 1) (aC (eV 2) (aC (eV 3) aN))))) (aC (zk yk (aC (eV 0) (aC (eV 1) (aC (eV 2) (aC (eV 3) aN))))) aN)))))
def x9:G:=z5 4 4 zas
def zhm:C :=
 (zw (qv 4 (zk yg (aC (eV 1) (aC (eV 3) aN)))) (zw (zbi (zk xq (aC (eV 4) aN))) (zw (sIf (zcb (bE (zk xp (aC (eV 1) (aC (eV 3) aN))))) zdl je) (zw (qv 5 (zap (aC (eV 4) (aC (zk x4 (aC (eV 1) (aC (eV 3) aN))) aN)))) (zw (qv 6 (zk x9 (aC (zs4 "Wood" "adding" (eV 0)) (aC (eV 1) (aC (eV 2) (aC (eV 3) aN)))))) (qk (x3 "Wood" "numbered" j8 (eV 0) (aC (e2 qm (e2 qm (zap (aC (eK (.bl false)) (aC (eV 1) (aC (eV 2) (aC (eV 3) aN))))) (eV 5)) (eV 6)) aN))))))))
def qd:G:=z5 7 4 zhm
def zez:C :=
 (zw (sIf (bE (e2 zdb (eV 1) (eK .non))) (qk (eK .non)) je) (zw (qv 2 (zap (aC (e2s qf (eV 1) (eK (.int 2))) (aC (e2s qf (eV 1) (eK (.int 3))) (aC (e2s qf (eV 1) (eK (.int 4))) aN))))) (qk (x3 "Wood" "numbered" j8 (eV 0) (aC (e2 qm (e2 qm (zap (aC (zv4 (e2s qf (eV 1) (eK (.int 1)))) aN)) (eV 2)) (zap (aC (zk jw (aC (eV 1) aN)) (aC (zk jh (aC (eV 1) aN)) (aC (zk zcx (aC (eV 1) aN)) (aC (zk y9 (aC (eV 1) aN)) aN)))))) aN)))))
def q8:G:=z5 3 2 zez
def zmg:C :=
 (zw (sIf (zcb (bE (e2s qf (eV 1) (eK (.int 1))))) (qk (zap (aC (e2s qf (eV 1) (eK (.int 2))) (aC (e2s qf (eV 1) (eK (.int 3))) (aC (e2s qf (eV 1) (eK (.int 4))) aN))))) je) (zw (qv 2 (x3 "Wood" "turned" q8 (eV 0) (aC (e2s qf (eV 1) (eK (.int 4))) aN))) (zw (qv 3 (x3 "Wood" "turned" q8 (eV 0) (aC (e2s qf (eV 1) (eK (.int 2))) aN))) (qk (zap (aC (eV 2) (aC (e2s qf (eV 1) (eK (.int 3))) (aC (eV 3) aN))))))))
def xc:G:=z5 4 2 zmg
def zet:C :=
 (zw (qv 4 (zk xc (aC (eV 0) (aC (eV 1) aN)))) (zw (sIf (bE (e2 zpf (zk jh (aC (e2s qf (eV 4) (eK (.int 0))) aN)) (zk jh (aC (e2s qf (eV 4) (eK (.int 2))) aN)))) (qk (x3 "Wood" "node" qd (eV 0) (aC (e2s qf (eV 4) (eK (.int 0))) (aC (e2s qf (eV 4) (eK (.int 1))) (aC (x3 "Wood" "node" qd (eV 0) (aC (e2s qf (eV 4) (eK (.int 2))) (aC (eV 2) (aC (eV 3) aN)))) aN))))) je) (zw (qv 5 (zk xc (aC (eV 0) (aC (e2s qf (eV 4) (eK (.int 2))) aN)))) (zw (qv 6 (x3 "Wood" "node" qd (eV 0) (aC (e2s qf (eV 4) (eK (.int 0))) (aC (e2s qf (eV 4) (eK (.int 1))) (aC (e2s qf (eV 5) (eK (.int 0))) aN))))) (zw (qv 7 (x3 "Wood" "node" qd (eV 0) (aC (e2s qf (eV 5) (eK (.int 2))) (aC (eV 2) (aC (eV 3) aN))))) (qk (x3 "Wood" "node" qd (eV 0) (aC (eV 6) (aC (e2s qf (eV 5) (eK (.int 1))) (aC (eV 7) aN))))))))))
def zaa:G:=z5 8 4 zet
def zdf:C :=
 (zw (qv 4 (zk xc (aC (eV 0) (aC (eV 3) aN)))) (zw (sIf (bE (e2 zpf (zk jh (aC (e2s qf (eV 4) (eK (.int 2))) aN)) (zk jh (aC (e2s qf (eV 4) (eK (.int 0))) aN)))) (qk (x3 "Wood" "node" qd (eV 0) (aC (x3 "Wood" "node" qd (eV 0) (aC (eV 1) (aC (eV 2) (aC (e2s qf (eV 4) (eK (.int 0))) aN)))) (aC (e2s qf (eV 4) (eK (.int 1))) (aC (e2s qf (eV 4) (eK (.int 2))) aN))))) je) (zw (qv 5 (zk xc (aC (eV 0) (aC (e2s qf (eV 4) (eK (.int 0))) aN)))) (zw (qv 6 (x3 "Wood" "node" qd (eV 0) (aC (eV 1) (aC (eV 2) (aC (e2s qf (eV 5) (eK (.int 0))) aN))))) (zw (qv 7 (x3 "Wood" "node" qd (eV 0) (aC (e2s qf (eV 5) (eK (.int 2))) (aC (e2s qf (eV 4) (eK (.int 1))) (aC (e2s qf (eV 4) (eK (.int 2))) aN))))) (qk (x3 "Wood" "node" qd (eV 0) (aC (eV 6) (aC (e2s qf (eV 5) (eK (.int 1))) (aC (eV 7) aN))))))))))
def yj:G:=z5 8 4 zdf
def zjs:C :=
 (zw (sIf (bE (zk xp (aC (eV 1) (aC (eV 3) aN)))) (qk (x3 "Wood" "node" qd (eV 0) (aC (eV 1) (aC (eV 2) (aC (eV 3) aN))))) je) (zw (sIf (bE (e2 zck (zk jh (aC (eV 1) aN)) (zk jh (aC (eV 3) aN)))) (qk (zk zaa (aC (eV 0) (aC (eV 1) (aC (eV 2) (aC (eV 3) aN)))))) je) (qk (zk yj (aC (eV 0) (aC (eV 1) (aC (eV 2) (aC (eV 3) aN))))))))
def jy:G:=z5 4 4 zjs
def zon(self:G):C :=
 (zw (sIf (bE (zk xp (aC (eV 1) (aC (eV 3) aN)))) (qk (x3 "Wood" "node" qd (eV 0) (aC (eV 1) (aC (eV 2) (aC (eV 3) aN))))) je) (zw (sIf (bE (e2 zck (zk jh (aC (eV 1) aN)) (zk jh (aC (eV 3) aN)))) (zw (qv 4 (zk xc (aC (eV 0) (aC (eV 1) aN)))) (qk (zk jy (aC (eV 0) (aC (e2s qf (eV 4) (eK (.int 0))) (aC (e2s qf (eV 4) (eK (.int 1))) (aC (zk (self) (aC (eV 0) (aC (e2s qf (eV 4) (eK (.int 2))) (aC (eV 2) (aC (eV 3) aN))))) aN))))))) je) (zw (qv 4 (zk xc (aC (eV 0) (aC (eV 3) aN)))) (qk (zk jy (aC (eV 0) (aC (zk (self) (aC (eV 0) (aC (eV 1) (aC (eV 2) (aC (e2s qf (eV 4) (eK (.int 0))) aN))))) (aC (e2s qf (eV 4) (eK (.int 1))) (aC (e2s qf (eV 4) (eK (.int 2))) aN)))))))))
def kj:Nat->G
 |0=>fun _ _=>none
 |k+1=>z5 5 4 (zon (kj k))
def zhg(self:G):C :=
 (zw (sIf (bE (e2 zdc (eV 2) (eK (.int 0)))) (qk (zap (aC (eK .non) (aC (eV 1) aN)))) je) (zw (sIf (bE (e2 zdc (eV 2) (zk jw (aC (eV 1) aN)))) (qk (zap (aC (eV 1) (aC (eK .non) aN)))) je) (zw (qv 3 (zk xc (aC (eV 0) (aC (eV 1) aN)))) (zw (qv 4 (zk jw (aC (e2s qf (eV 3) (eK (.int 0))) aN))) (zw (sIf (bE (e2 zc8 (eV 2) (eV 4))) (zw (qv 5 (zk (self) (aC (eV 0) (aC (e2s qf (eV 3) (eK (.int 0))) (aC (eV 2) aN))))) (qk (zap (aC (e2s qf (eV 5) (eK (.int 0))) (aC (zk (kj 40) (aC (eV 0) (aC (e2s qf (eV 5) (eK (.int 1))) (aC (e2s qf (eV 3) (eK (.int 1))) (aC (e2s qf (eV 3) (eK (.int 2))) aN))))) aN))))) je) (zw (qv 5 (zk (self) (aC (eV 0) (aC (e2s qf (eV 3) (eK (.int 2))) (aC (e2 y6 (e2 y6 (eV 2) (eV 4)) (eK (.int 1))) aN))))) (qk (zap (aC (zk (kj 40) (aC (eV 0) (aC (e2s qf (eV 3) (eK (.int 0))) (aC (e2s qf (eV 3) (eK (.int 1))) (aC (e2s qf (eV 5) (eK (.int 0))) aN))))) (aC (e2s qf (eV 5) (eK (.int 1))) aN))))))))))
def j6:Nat->G
 |0=>fun _ _=>none
 |k+1=>z5 6 3 (zhg (j6 k))
def zy9:C :=
 (zw (zbi (zk jq (aC (eV 2) (aC (e2 qm (zk jw (aC (eV 1) aN)) (eK (.int 1))) aN)))) (qk (zk (j6 40) (aC (eV 0) (aC (eV 1) (aC (eV 2) aN))))))
def zr1:G:=z5 3 3 zy9
def zwi:C :=
 (zw (sIf (bE (e2 zdc (e2s qf (eV 0) (eK (.int 1))) (eV 1))) (qk (zap (aC (e2s qf (eV 0) (eK (.int 2))) (aC (e2s qf (eV 0) (eK (.int 3))) (aC (e2s qf (eV 0) (eK (.int 4))) (aC (eK (.bl false)) aN)))))) je) (qk (zap (aC (e2s qf (eV 0) (eK (.int 4))) (aC (e2s qf (eV 0) (eK (.int 3))) (aC (e2s qf (eV 0) (eK (.int 2))) (aC (eK (.bl true)) aN)))))))
def zin:G:=z5 2 2 zwi
def zjq(self:G):C :=
 (zw (qv 3 (zk zin (aC (eV 0) (aC (eV 1) aN)))) (zw (qv 4 (zk jw (aC (e2s qf (eV 3) (eK (.int 0))) aN))) (zw (sIf (bE (e2 zbp (eV 2) (eV 4))) (qk (zk (self) (aC (e2s qf (eV 3) (eK (.int 0))) (aC (e2s qf (eV 3) (eK (.int 3))) (aC (eV 2) aN))))) je) (zw (sIf (bE (e2 zck (eV 2) (eV 4))) (qk (zk (self) (aC (e2s qf (eV 3) (eK (.int 2))) (aC (e2s qf (eV 3) (eK (.int 3))) (aC (e2 y6 (e2 y6 (eV 2) (eV 4)) (eK (.int 1))) aN))))) je) (qk (e2s qf (eV 3) (eK (.int 1))))))))
def xo:Nat->G
 |0=>fun _ _=>none
 |k+1=>z5 5 3 (zjq (xo k))
def zat(self:G):C :=
 (zw (sIf (bE (e2 zdb (eV 1) (eK .non))) (qk (eV 2)) je) (zw (sIf (bE (e2 zdb (eV 2) (eK .non))) (qk (eV 1)) je) (qk (zk (kj 40) (aC (eV 0) (aC (eV 1) (aC (zk (xo 40) (aC (eV 2) (aC (eK (.bl false)) (aC (eK (.int 0)) aN)))) (aC (zk (self) (aC (eV 0) (aC (eV 2) (aC (eK (.int 0)) aN)))) aN))))))))
def jv(self:G):G:=z5 3 3 (zat self)
def zc1(self aux:G):C :=
 (zw (qv 3 (zk xc (aC (eV 0) (aC (eV 1) aN)))) (zw (qv 4 (zk jw (aC (e2s qf (eV 3) (eK (.int 0))) aN))) (zw (sIf (bE (e2 zbp (eV 2) (eV 4))) (qk (zk jy (aC (eV 0) (aC (zk (self) (aC (eV 0) (aC (e2s qf (eV 3) (eK (.int 0))) (aC (eV 2) aN)))) (aC (e2s qf (eV 3) (eK (.int 1))) (aC (e2s qf (eV 3) (eK (.int 2))) aN)))))) je) (zw (sIf (bE (e2 zck (eV 2) (eV 4))) (qk (zk jy (aC (eV 0) (aC (e2s qf (eV 3) (eK (.int 0))) (aC (e2s qf (eV 3) (eK (.int 1))) (aC (zk (self) (aC (eV 0) (aC (e2s qf (eV 3) (eK (.int 2))) (aC (e2 y6 (e2 y6 (eV 2) (eV 4)) (eK (.int 1))) aN)))) aN)))))) je) (qk (zk (aux) (aC (eV 0) (aC (e2s qf (eV 3) (eK (.int 0))) (aC (e2s qf (eV 3) (eK (.int 2))) aN)))))))))
def jp:Nat->G
 |0=>fun _ _=>none
 |k+1=>z5 5 3 (zc1 (jp k) (jv (jp k)))
def xu:G:=jv (jp 40)
def zwl:C :=
 (zw (zbi (zk xq (aC (e2 qm (zk jw (aC (eV 1) aN)) (zk jw (aC (eV 2) aN))) aN))) (qk (zk xu (aC (eV 0) (aC (eV 1) (aC (eV 2) aN))))))
def zlw:G:=z5 3 3 zwl
def zy8:C :=
 (zw (zbi (zk jq (aC (eV 2) (aC (zk jw (aC (eV 1) aN)) aN)))) (qk (zk (jp 40) (aC (eV 0) (aC (eV 1) (aC (eV 2) aN))))))
def zlv:G:=z5 3 3 zy8
def zc2:C :=
 (sIf (zcb (bE (zem zc8 zc8 zc8 (eK (.int 0)) (eV 1) (eV 2) (zk jw (aC (eV 0) aN))))) zdl je)
def xx:G:=z5 3 3 zc2
def zwj:C :=
 (zw (zbi (zk xx (aC (eV 1) (aC (eV 2) (aC (eV 3) aN))))) (qk (e2s qf (zk (j6 40) (aC (eV 0) (aC (e2s qf (zk (j6 40) (aC (eV 0) (aC (eV 1) (aC (eV 3) aN)))) (eK (.int 0))) (aC (eV 2) aN)))) (eK (.int 1)))))
def zio:G:=z5 4 4 zwj
def zom(self:G):C :=
 (zw (sIf (bE (e2 zdb (eV 1) (eK .non))) (qk (x3 "Wood" "node" qd (eV 0) (aC (eK .non) (aC (eV 3) (aC (eK .non) aN))))) je) (zw (qv 4 (zk xc (aC (eV 0) (aC (eV 1) aN)))) (zw (qv 5 (zk jw (aC (e2s qf (eV 4) (eK (.int 0))) aN))) (zw (sIf (bE (e2 zc8 (eV 2) (eV 5))) (qk (zk jy (aC (eV 0) (aC (zk (self) (aC (eV 0) (aC (e2s qf (eV 4) (eK (.int 0))) (aC (eV 2) (aC (eV 3) aN))))) (aC (e2s qf (eV 4) (eK (.int 1))) (aC (e2s qf (eV 4) (eK (.int 2))) aN)))))) je) (qk (zk jy (aC (eV 0) (aC (e2s qf (eV 4) (eK (.int 0))) (aC (e2s qf (eV 4) (eK (.int 1))) (aC (zk (self) (aC (eV 0) (aC (e2s qf (eV 4) (eK (.int 2))) (aC (e2 y6 (e2 y6 (eV 2) (eV 5)) (eK (.int 1))) (aC (eV 3) aN))))) aN))))))))))
def zb8:Nat->G
 |0=>fun _ _=>none
 |k+1=>z5 6 4 (zom (zb8 k))
def zy7:C :=
 (zw (zbi (zk jq (aC (eV 2) (aC (e2 qm (zk jw (aC (eV 1) aN)) (eK (.int 1))) aN)))) (zw (zbi (zk xq (aC (e2 qm (zk jw (aC (eV 1) aN)) (eK (.int 1))) aN))) (qk (zk (zb8 40) (aC (eV 0) (aC (eV 1) (aC (eV 2) (aC (eV 3) aN))))))))
def zg1:G:=z5 4 4 zy7
def zsm(self:G):C :=
 (zw (qv 4 (zk xc (aC (eV 0) (aC (eV 1) aN)))) (zw (qv 5 (zk jw (aC (e2s qf (eV 4) (eK (.int 0))) aN))) (zw (sIf (bE (e2 zbp (eV 2) (eV 5))) (qk (x3 "Wood" "node" qd (eV 0) (aC (zk (self) (aC (eV 0) (aC (e2s qf (eV 4) (eK (.int 0))) (aC (eV 2) (aC (eV 3) aN))))) (aC (e2s qf (eV 4) (eK (.int 1))) (aC (e2s qf (eV 4) (eK (.int 2))) aN))))) je) (zw (sIf (bE (e2 zck (eV 2) (eV 5))) (qk (x3 "Wood" "node" qd (eV 0) (aC (e2s qf (eV 4) (eK (.int 0))) (aC (e2s qf (eV 4) (eK (.int 1))) (aC (zk (self) (aC (eV 0) (aC (e2s qf (eV 4) (eK (.int 2))) (aC (e2 y6 (e2 y6 (eV 2) (eV 5)) (eK (.int 1))) (aC (eV 3) aN))))) aN))))) je) (qk (x3 "Wood" "node" qd (eV 0) (aC (e2s qf (eV 4) (eK (.int 0))) (aC (eV 3) (aC (e2s qf (eV 4) (eK (.int 2))) aN)))))))))
def zec:Nat->G
 |0=>fun _ _=>none
 |k+1=>z5 6 4 (zsm (zec k))
def zmf:C :=
 (zw (zbi (zk jq (aC (eV 2) (aC (zk jw (aC (eV 1) aN)) aN)))) (qk (zk (zec 40) (aC (eV 0) (aC (eV 1) (aC (eV 2) (aC (eV 3) aN)))))))
def zal:G:=z5 4 4 zmf
def zes:C :=
 (zw (zbi (zk xx (aC (eV 1) (aC (eV 2) (aC (eV 3) aN))))) (zw (qv 4 (zk (j6 40) (aC (eV 0) (aC (eV 1) (aC (eV 3) aN))))) (zw (qv 5 (zk (j6 40) (aC (eV 0) (aC (e2s qf (eV 4) (eK (.int 0))) (aC (eV 2) aN))))) (zw (qv 6 (zk xu (aC (eV 0) (aC (e2s qf (eV 5) (eK (.int 0))) (aC (x3 "Wood" "turned" q8 (eV 0) (aC (e2s qf (eV 5) (eK (.int 1))) aN)) aN))))) (qk (zk xu (aC (eV 0) (aC (eV 6) (aC (e2s qf (eV 4) (eK (.int 1))) aN)))))))))
def y8:G:=z5 7 4 zes
def zhk:C :=
 (zw (qv 5 (e2s qf (eV 2) (e2 q9 (eV 4) (eA zfo (aC (eV 2) aN))))) (zw (qv 6 (e2s qf (eV 2) (e2 q9 (e2 yb (eV 4) (eK (.int 64))) (eA zfo (aC (eV 2) aN))))) (zw (qv 7 (zk xj (aC (eV 5) aN))) (zw (qv 4 (e2 yb (eV 4) (eK (.int 4096)))) (zw (qv 8 (e2 q9 (eV 4) (e2 qm (eV 7) (eK (.int 1))))) (zw (sIf (bE (e2 zbp (eV 3) (eK (.int 2)))) (qk (ya (aC (ya (aC (eV 5) aN)) (aC (ya (aC (zk zg1 (aC (eV 1) (aC (eV 5) (aC (eV 8) (aC (zk qu (aC (eV 0) (aC (eV 4) aN))) aN))))) aN)) (aC (eK (.int 24)) aN))))) je) (zw (sIf (zho (bE (e2 zbp (eV 3) (eK (.int 4)))) (bE (e2 zck (eV 7) (eK (.int 0))))) (qk (ya (aC (ya (aC (eV 5) aN)) (aC (ya (aC (zk zlv (aC (eV 1) (aC (eV 5) (aC (e2 q9 (eV 4) (eV 7)) aN)))) aN)) (aC (eK (.int 24)) aN))))) je) (zw (sIf (zho (bE (e2 zbp (eV 3) (eK (.int 6)))) (bE (e2 zck (eV 7) (eK (.int 0))))) (qk (ya (aC (ya (aC (eV 5) aN)) (aC (ya (aC (zk zal (aC (eV 1) (aC (eV 5) (aC (e2 q9 (eV 4) (eV 7)) (aC (zk qu (aC (eV 0) (aC (eV 4) aN))) aN))))) aN)) (aC (eK (.int 24)) aN))))) je) (zw (sIf (bE (e2 zbp (eV 3) (eK (.int 8)))) (qk (ya (aC (ya (aC (eV 5) aN)) (aC (zis (aC (zk zr1 (aC (eV 1) (aC (eV 5) (aC (eV 8) aN)))) aN)) (aC (eK (.int 60)) aN))))) je) (zw (qv 9 (e2 qm (eV 8) (e2 q9 (e2 yb (eV 4) (eK (.int 1024))) (e2 qm (e2 y6 (eV 7) (eV 8)) (eK (.int 1)))))) (zw (sIf (bE (e2 zdc (eV 3) (eK (.int 8)))) (qk (ya (aC (ya (aC (eV 5) aN)) (aC (ya (aC (zk zio (aC (eV 1) (aC (eV 5) (aC (eV 8) (aC (eV 9) aN))))) aN)) (aC (eK .non) aN))))) je) (zw (sIf (bOr (bE (e2 zbp (eV 3) (eK (.int 11)))) (bE (e2 zck (e2 qm (eV 7) (zk xj (aC (eV 6) aN))) (eK (.int 800))))) (qk (ya (aC (ya (aC (eV 5) aN)) (aC (ya (aC (zk y8 (aC (eV 1) (aC (eV 5) (aC (eV 8) (aC (eV 9) aN))))) aN)) (aC (eK .non) aN))))) je) (qk (ya (aC (ya (aC (eV 5) (aC (eV 6) aN))) (aC (ya (aC (zk zlw (aC (eV 1) (aC (eV 5) (aC (eV 6) aN)))) aN)) (aC (eK (.int 24)) aN)))))))))))))))))
def xy:G:=z5 10 5 zhk
def zhj:C :=
 (zw (sIf (bE (e2 zdb (eV 0) (eK .non))) (qk (eK (.int 0))) je) (qk (e2s qf (eV 0) (eK (.int 6)))))
def jt:G:=z5 1 1 zhj
def zav:C :=
 (zw (qv 1 zjj) (zw (qv 2 (zfx (aC (eV 0) aN))) (zw (zo1 5000 (bE (e2s zdz (eV 2) (ya aN))) (zw (qv 3 (zs3 (eV 2))) (sIf (zho (bE (e2 ji (eV 3) (eK .non))) (bE (e2s ka (e2s qf (eV 3) (eK (.int 0))) (eV 1)))) (zw (zdm (eV 1) (e2s qf (eV 3) (eK (.int 0))) (eV 3)) (zw (jz (eV 2) (e2s qf (eV 3) (eK (.int 2)))) (jz (eV 2) (e2s qf (eV 3) (eK (.int 4)))))) je))) (qk (eV 1)))))
def zv:G:=frzD (z5 4 1 zav)
def zdt:C :=
 (zw (qv 3 zjj) (zw (qv 4 (eK (.int 0))) (zw (zfb 5 (eV 0) (zw (qv 4 (eA znq (aC (eV 4) (aC (zk jt (aC (eV 5) aN)) aN)))) (zda 6 (zk zv (aC (eV 5) aN)) (ye (eV 3) (eV 6) (eK (.bl true)))))) (zw (qv 7 zjj) (zw (zfb 5 (eV 1) (zda 6 (zk zv (aC (eV 5) aN)) (sIf (bE (e2s ka (eV 6) (eV 3))) (ye (eV 7) (eV 6) (eK (.bl true))) je))) (qk (e2 zc8 (eA zlc (aC (eV 7) aN)) (e2 ki (eV 2) (e2 qm (eV 4) (eK (.int 2)))))))))))
def jk:G:=frz (z5 8 3 zdt)
def zex:C :=
 (zw (sIf (bE (e2 zdb (eV 0) (eK .non))) (qk (eK .non)) je) (qk (e2s qf (eV 0) (eK (.int 0)))))
def km:G:=z5 1 1 zex
def zhh:C :=
 (qk (zap (aC (e2s qf (eV 0) (eK (.int 1))) (aC (zk km (aC (e2s qf (eV 0) (eK (.int 2))) aN)) (aC (e2s qf (eV 0) (eK (.int 3))) (aC (zk km (aC (e2s qf (eV 0) (eK (.int 4))) aN)) (aC (e2s qf (eV 0) (eK (.int 5))) (aC (e2s qf (eV 0) (eK (.int 6))) aN))))))))
def zab:G:=z5 1 1 zhh
def zc3:C :=
 (zw (zda 2 (eV 1) (zw (qv 3 (zk zab (aC (e2s za8 (eV 1) (eV 2)) aN))) (zw (sIf (bE (e2 zno (zl5 (eV 0) (eV 2) (eV 3)) (eV 3))) (qk (eK (.bl false))) je) (ye (eV 0) (eV 2) (eV 3))))) (qk (eK (.bl true))))
def qi:G:=z5 4 2 zc3
def z0w:C :=
 (zw (zbi (zk jq (aC (eV 1) (aC (zk jw (aC (eV 0) aN)) aN)))) (qk (zk (xo 40) (aC (eV 0) (aC (eK (.bl false)) (aC (eV 1) aN))))))
def zyr:G:=z5 2 2 z0w
open Classical in
def zjo:LT->Option G:=fun t=>
 none
def zyq:E :=
 (zaq ft (fun _=>none) zjo (eV 2) (aC (e2s qf (eV 0) (eK (.int 0))) (aC (e2s qf (eV 1) (eK (.int 0))) aN)))
def zw5:G:=zml 3 3 zyq
open Classical in
def zoh:LT->Option G:=fun t=>
 if t=lt_0 then some zw5 else
 none
def zeu:C :=
 (qk (zs5 (e2 zbp (eV 1) (zk jw (aC (eV 0) aN))) (zv4 (zaq ft zgi zoh (eV 3) (aC (eV 2) (aC (zk zyr (aC (eV 0) (aC (eV 1) aN))) aN))))))
def xw:G:=z5 4 4 zeu
def zdg(self:G):C :=
 (zw (sIf (bE (e2 zdb (eV 0) (eK .non))) (qk (eK (.int 0))) je) (zw (qv 4 (zk zin (aC (eV 0) (aC (eV 1) aN)))) (zw (sIf (bE (zaq ft zgi zoh (eV 3) (aC (e2s qf (eV 4) (eK (.int 1))) (aC (eV 2) aN)))) (qk (e2 qm (e2 qm (zk jw (aC (e2s qf (eV 4) (eK (.int 0))) aN)) (eK (.int 1))) (zk (self) (aC (e2s qf (eV 4) (eK (.int 2))) (aC (e2s qf (eV 4) (eK (.int 3))) (aC (eV 2) (aC (eV 3) aN))))))) je) (qk (zk (self) (aC (e2s qf (eV 4) (eK (.int 0))) (aC (e2s qf (eV 4) (eK (.int 3))) (aC (eV 2) (aC (eV 3) aN)))))))))
def x5:Nat->G
 |0=>fun _ _=>none
 |k+1=>z5 5 4 (zdg (x5 k))
def zjr:C :=
 (qk (zk (x5 40) (aC (eV 0) (aC (eK (.bl false)) (aC (eV 1) (aC (eV 2) aN))))))
def kt:G:=z5 3 3 zjr
def zso:C :=
 (zw (qv 4 (zk kt (aC (eV 1) (aC (eV 2) (aC (eV 3) aN))))) (zw (sIf (bE (zk xw (aC (eV 1) (aC (eV 4) (aC (eV 2) (aC (eV 3) aN)))))) (qk (eV 1)) je) (qk (zk zg1 (aC (eV 0) (aC (eV 1) (aC (eV 4) (aC (eV 2) aN))))))))
def zg2:G:=z5 5 4 zso
def zb6:C :=
 (zw (qv 3 (zk kt (aC (eV 0) (aC (eV 1) (aC (eV 2) aN))))) (zw (sIf (zcb (bE (zk xw (aC (eV 0) (aC (eV 3) (aC (eV 1) (aC (eV 2) aN))))))) zdl je) (qk (eV 3))))
def ke:G:=z5 4 3 zb6
def zmi:C :=
 (qk (zk zlv (aC (eV 0) (aC (eV 1) (aC (zk ke (aC (eV 1) (aC (eV 2) (aC (eV 3) aN)))) aN)))))
def zbk:G:=z5 4 4 zmi
def zsn(self:G):C :=
 (zw (sIf (bE (e2 zdc (eV 2) (eV 3))) (qk (eK .non)) je) (zw (qv 4 (e2 yb (e2 qm (eV 2) (eV 3)) (eK (.int 2)))) (zw (qv 5 (zk (self) (aC (eV 0) (aC (eV 1) (aC (eV 2) (aC (eV 4) aN)))))) (zw (qv 6 (zk (self) (aC (eV 0) (aC (eV 1) (aC (e2 qm (eV 4) (eK (.int 1))) (aC (eV 3) aN)))))) (qk (x3 "Wood" "node" qd (eV 0) (aC (eV 5) (aC (e2s qf (eV 1) (eV 4)) (aC (eV 6) aN)))))))))
def zed:Nat->G
 |0=>fun _ _=>none
 |k+1=>z5 7 4 (zsn (zed k))
def zmh:C :=
 (zw (zbi (zk xq (aC (eA zfo (aC (eV 1) aN)) aN))) (qk (zk (zed 40) (aC (eV 0) (aC (eV 1) (aC (eK (.int 0)) (aC (eA zfo (aC (eV 1) aN)) aN)))))))
def xf:G:=z5 2 2 zmh
def zaz:G:=zr2 0 1 "by_key" lt_0 [0]
def zf6:C :=
 (zw (qv 5 (zap (aC (eV 2) (aC (eV 3) aN)))) (zw (qv 6 (zk zaz (aC (eV 4) aN))) (zw (qv 7 (zk kt (aC (eV 1) (aC (eV 5) (aC (eV 6) aN))))) (zw (sIf (bE (zk xw (aC (eV 1) (aC (eV 7) (aC (eV 5) (aC (eV 6) aN)))))) (qk (zk zal (aC (eV 0) (aC (eV 1) (aC (eV 7) (aC (eV 5) aN)))))) je) (qk (zk zg1 (aC (eV 0) (aC (eV 1) (aC (eV 7) (aC (eV 5) aN))))))))))
def yf:G:=z5 8 5 zf6
def zol:C :=
 (qk (zap (aC (eV 0) (aC (eK .non) aN))))
def zeb:G:=z5 1 1 zol
def zme:C :=
 (qk (zk zbk (aC (eV 0) (aC (eV 1) (aC (zk zeb (aC (eV 2) aN)) (aC (zk zaz (aC (eV 3) aN)) aN))))))
def zcw:G:=z5 4 4 zme
def zau:C :=
 (zw (qv 2 (zel "Wood" (zv9 1 qx) aN)) (zw (qv 3 (zk z9 (aC (zk zy (aC (eV 0) (aC (eK (.int 24)) aN))) (aC (eK (.int 9)) aN)))) (zw (qv 4 (e2 qm (eK (.int 1)) (e2 q9 (eV 3) (e2 qm (eV 1) (eK (.int 1)))))) (zw (qv 5 (zk xf (aC (eV 2) (aC (yu [] (zmu (eV 4)) ziy (e2 ki (eK (.int 3)) (eV 0))) aN)))) (zw (qv 6 (zk xf (aC (eV 2) (aC (yu [] (zmu (eV 4)) ziy (zap (aC (e2 ki (eK (.int 3)) (eV 0)) (aC (eV 0) aN)))) aN)))) (zw (qv 7 (e2 ki (eK (.int 3)) (e2 q9 (e2 yb (eV 3) (eK (.int 512))) (eV 4)))) (zw (qv 8 (zfx (aC (zap (aC (eV 5) (aC (zk zg2 (aC (eV 2) (aC (eV 5) (aC (e2 qm (eV 7) (eK (.int 1))) (aC (eK (.fn "_law_before")) aN))))) aN))) (aC (zap (aC (eV 5) (aC (zk zbk (aC (eV 2) (aC (eV 5) (aC (eV 7) (aC (eK (.fn "_law_before")) aN))))) aN))) aN)))) (zw (jz (eV 8) (zap (aC (eV 6) (aC (zk yf (aC (eV 2) (aC (eV 6) (aC (e2 qm (eV 7) (eK (.int 1))) (aC (eK (.int 7)) (aC (eK (.fn "_law_before")) aN)))))) aN)))) (zw (jz (eV 8) (zap (aC (eV 6) (aC (zk yf (aC (eV 2) (aC (eV 6) (aC (eV 7) (aC (eK (.int 7)) (aC (eK (.fn "_law_before")) aN)))))) aN)))) (zw (jz (eV 8) (zap (aC (eV 6) (aC (zk zcw (aC (eV 2) (aC (eV 6) (aC (eV 7) (aC (eK (.fn "_law_before")) aN))))) aN)))) (zw (zkj [9,10] (eV 8) (sIf (zcb (bE (zk jk (aC (ya (aC (eV 9) aN)) (aC (ya (aC (eV 10) aN)) (aC (eK (.int 24)) aN)))))) (qk (eK (.bl false))) je)) (qk (eK (.bl true))))))))))))))
def j7:G:=frz (z5 11 2 zau)
def zew:C :=
 (qk (yu [1,0] (zmu (e2 q9 (eV 1) (e2 qm (eV 2) (eK (.int 1))))) ziy (zk qu (aC (eV 2) (aC (zk z9 (aC (eV 1) (aC (e2 qm (eK (.int 10)) (eV 0)) aN))) aN)))))
def jr:G:=z5 3 3 zew
end
end Pg
namespace Pg
open PySem L2 F Mt
class Kd (k:Nat):Prop where
 eq:k=0\/k=2
instance:Kd 0:=⟨.inl rfl⟩
instance:Kd 2:=⟨.inr rfl⟩
variable {k:Nat} [Kd k] {S S0 S1:Sto}{ev:Ev}
def x6(k:Nat):D:=match k with
 |2=>.fn (Str.ofString "_law_joined")
 |_=>.non
theorem zmq(hk:k≠0):(∃z,x6 k=.fn z)\/∃z,x6 k=.lam z:=by
 rcases Kd.eq (k:=k)with h | h
 · exact absurd h hk
 · subst h;exact .inl ⟨_,rfl⟩
theorem z0u:ft (Str.ofString "_law_joined")=some ko:=z1t rfl
theorem zsv{f:E}{as:As}{x y:D}{n m:Nat}(hk:k≠0)(h:f ev S=some (x6 k,S))(ha:as ev S=some ([x,y],S))(hx:Th k n x)(hy:Th k m y)(hn:n+m<=4000):yw ft zgi f as ev S=some (ad k x y,S):=by
 have hz:sizeLine=16777216:=z14;unfold yw;rw[h];rcases Kd.eq (k:=k)with e | e
 · exact absurd e hk
 · subst e;obtain⟨i,rfl,h⟩:=hx;obtain⟨j,rfl,h'⟩:=hy;simp only[x6,Option.bind_some,z0u,ha];simp[ko,z5,zbo,qk,e2,eV,qm,ad,isS,show i.length+j.length<=sizeLine by omega]
end Pg
namespace Pg
open PySem L2 F Mt
variable {k:Nat} [Kd k] {d l r t:D}{ts lt rt:List D}{h lh rh:Nat}{S S1:Sto}{ev e:Ev}
theorem zoz(a b c d e f g h i:D)(S:Sto):jw [.tup [a,b,c,d,e,f,g,h,i]] S=some (f,S):=rfl
theorem zim(a b c d e f g h i:D)(S:Sto):jh [.tup [a,b,c,d,e,f,g,h,i]] S=some (g,S):=rfl
theorem zj3(a b c d e f g h i:D)(S:Sto):y9 [.tup [a,b,c,d,e,f,g,h,i]] S=some (h,S):=rfl
theorem zp3(a b c d e f g h i:D)(S:Sto):zcx [.tup [a,b,c,d,e,f,g,h,i]] S=some (i,S):=rfl
theorem jf(m:Mk k d ts h)(S:Sto):jw [d] S=some (.int ts.length,S):=by
 cases m with
 |non=>rfl
 |node _ _ _ _ _=>rw[mkD,zoz,y4];simp;omega
theorem qt(m:Mk k d ts h)(S:Sto):jh [d] S=some (.int h,S):=by
 cases m with
 |non=>rfl
 |node _ _ _ _ _=>rw[mkD,zim]
theorem zht(m:Mk k d ts h)(S:Sto):y9 [d] S=some (zaf k ts,S):=by
 cases m with
 |non=>rfl
 |node _ _ _ _ _=>rw[mkD,zj3]
theorem zmo(m:Mk k d ts h)(S:Sto):zcx [d] S=some (zaf k ts.reverse,S):=by
 cases m with
 |non=>rfl
 |node _ _ _ _ _=>rw[mkD,zp3]
theorem zdx(ml:Mk k l lt lh)(mr:Mk k r rt rh)(S:Sto):yg [l,r] S=some (.int (lt.length+1+rt.length:Nat),S):=by simp[yg,z5,zb1,qk,e2,zk,aC,aN,eV,eK,qm,jf ml,jf mr]
theorem zcv(ml:Mk k l lt lh)(mr:Mk k r rt rh)(S:Sto):x4 [l,r] S=some (.int (max lh rh+1:Nat),S):=by simp[x4,z5,za7,qk,e2,zk,aC,aN,eV,eK,qm,eA,znq,qt ml,qt mr];split<;>omega
theorem y7(ml:Mk k l lt lh)(mr:Mk k r rt rh)(S:Sto):xp [l,r] S=some (.bl (decide (lh<=rh+1/\rh<=lh+1)),S):=by simp[xp,z5,zb2,qk,e2,zk,aC,aN,eV,eK,y6,zc8,F.opI,zk2,eA,zws,qt ml,qt mr];rw[Bool.eq_iff_iff];simp;split<;>omega
theorem zij(xs:List D):ji (.tup xs) .non=some (.bl true):=rfl
theorem zp6{a b:E}{x y:D}{n m:Nat}(hk:k≠0)(h0:ev[0]? = some (some (x6 k)))(ha:a ev S=some (x,S))(hb:b ev S=some (y,S))(hx:Th k n x)(hy:Th k m y)(hn:n+m<=4000):yw ft zgi (eV 0) (aC a (aC b aN)) ev S=some (ad k x y,S):=by exact zsv hk (e_v h0) (a_c ha (a_c hb a_n)) hx hy hn
theorem ziz{gs:G}{w:E->E}{p q:Nat}{x y:D}{xt yt:List D}(hk:k≠0)(ht:Thing k t)(hn:xt.length+1+yt.length<=2000)(hx:∀z∈xt,Thing k z)(hy:∀z∈yt,Thing k z)(ex:x=.non/\xt=[]\/xt≠[]/\∃xs,x=.tup xs)(ey:y=.non/\yt=[]\/yt≠[]/\∃ys,y=.tup ys)
   (ev0:Ev) (S:Sto) (e0:ev0[0]? = some (some (x6 k))) (et:ev0[2]? = some (some t)) (ep:ev0[p]? = some (some x)) (eq:ev0[q]? = some (some y)) (hl:ev0.length=5) (hp:p<4) (hq:q<4) (hx':∀ev:Ev,ev[p]? = some (some x)->w (eV p) ev S=some (zaf k xt,S)) (hy':∀ev:Ev,ev[q]? = some (some y)->w (eV q) ev S=some (zaf k yt,S)) :
   zw (qv 4 (eV 2)) (zw (sIf (bE (e2 ji (eV p) (eK .non))) (qv 4 (yw ft zgi (eV 0) (aC (w (eV p)) (aC (eV 4) aN)))) je) (zw (sIf (bE (e2 ji (eV q) (eK .non))) (qv 4 (yw ft zgi (eV 0) (aC (eV 4) (aC (w (eV q)) aN)))) je) (qk (eV 4)))) ev0 S=some (.rt (zaf k (xt++t::yt)),S):=by
 have tt:=ht.th hk;have g4:∀(d:D) (i:Nat),i<4->(ev0.set 4 (some d))[i]? = ev0[i]?:=fun d i hi=>z2o (by omega);have s4:∀(ev:Ev) (d:D),ev.length=5->(ev.set 4 (some d))[4]? = some (some d):=fun ev d h=>z17 (by omega);have ss:∀(d e:D),(ev0.set 4 (some d)).set 4 (some e)=ev0.set 4 (some e):=fun d e=>by simp
 have step2:∀(acc:D) (n:Nat),Th k n acc->n+yt.length<=2000->∀{res:D},(yt=[]->res=acc)->(yt≠[]->res=ad k acc (zaf k yt)) ->
     zw (sIf (bE (e2 ji (eV q) (eK .non))) (qv 4 (yw ft zgi (eV 0) (aC (eV 4) (aC (w (eV q)) aN)))) je) (qk (eV 4)) (ev0.set 4 (some acc)) S=some (.rt res,S):=by
   intro acc n ha hb res r1 r2;rcases ey with⟨e1,e2'⟩ | ⟨e1,ys,e2'⟩
   · rw[r1 e2'];exact zh (zp (jb (e_2 (e_v (by rw[g4 _ _ hq,eq])) e_k (by rw[e1];rfl)))) (zt (e_v (s4 _ _ hl)))
   · rw[r2 e1];refine zh (qh (jb (e_2 (e_v (by rw[g4 _ _ hq,eq])) e_k (by rw[e2'];rfl))) (zo (zp6 hk (by rw[g4 _ _ (by decide),e0]) (e_v (s4 _ _ hl)) (hy' _ (by rw[g4 _ _ hq,eq])) ha (ze9 hk e1 hy) (by omega)))) (zt (e_v ?_));rw[ss];exact s4 _ _ hl
 refine zh (zo (e_v et)) ?_;rcases ex with⟨e1,e2'⟩ | ⟨e1,xs,e2'⟩
 · subst e2';refine zh (zp (jb (e_2 (e_v (by rw[g4 _ _ hp,ep])) e_k (by rw[e1];rfl)))) (step2 t 1 tt (by simp at hn;omega) (fun z=>by rw[z,List.nil_append,zbh hk]) fun z=>?_);rw[List.nil_append,show t::yt=[t]++yt from rfl,yz hk (by simp) z,zbh hk]
 · have t1:=ze9 hk e1 hx;have e3:zaf k (xt++[t])=ad k (zaf k xt) t:=by rw[yz hk e1 (by simp),zbh hk]
   refine zh (qh (jb (e_2 (e_v (by rw[g4 _ _ hp,ep])) e_k (by rw[e2'];rfl))) (zo (zp6 hk (by rw[g4 _ _ (by decide),e0]) (hx' _ (by rw[g4 _ _ hp,ep])) (e_v (s4 _ _ hl)) t1 tt (by omega)))) ?_;rw[ss];exact step2 _ _ (t1.ad tt) (by omega) (fun z=>by rw[z,e3]) fun z=>by rw[show xt++t::yt=(xt++[t])++yt by simp,yz hk (by simp) z,e3]
theorem zie{xs:List D}(m:Mk k d ts h):d=.non/\ts=[]\/ts≠[]/\∃xs,d=.tup xs:=by
 cases m with
 |non=>exact .inl ⟨rfl,rfl⟩
 |node _ _ _ _ _=>exact .inr ⟨by intro z;have:=z2f List.length z;rw[y4]at this;simp at this,_,rfl⟩
theorem zk3(hk:k≠0)(ml:Mk k l lt lh)(mr:Mk k r rt rh)(ht:Thing k t)(hn:lt.length+1+rt.length<=2000)(S:Sto) :
   zam [x6 k,l,t,r] S=some (zaf k (lt++t::rt),S) :=
 jl rfl (ziz (w:=fun x=>zk y9 (aC x aN)) (p:=1) (q:=3) (gs:=y9) hk ht hn ml.things mr.things (zie (xs:=[]) ml) (zie (xs:=[]) mr) _ S rfl rfl rfl rfl rfl (by decide) (by decide) (fun ev h=>zg (a_c (e_v h) a_n) (zht ml S)) (fun ev h=>zg (a_c (e_v h) a_n) (zht mr S)))
theorem zhn(hk:k≠0)(ml:Mk k l lt lh)(mr:Mk k r rt rh)(ht:Thing k t)(hn:lt.length+1+rt.length<=2000)(S:Sto) :
   yk [x6 k,l,t,r] S=some (zaf k (lt++t::rt).reverse,S):=by
 have rev:(lt++t::rt).reverse=rt.reverse++t::lt.reverse:=by simp
 have no:∀{d:D}{ts:List D},(d=.non/\ts=[]\/ts≠[]/\∃xs,d=.tup xs)->(d=.non/\ts.reverse=[]\/ts.reverse≠[]/\∃xs,d=.tup xs):=fun h=>by simpa using h
 rw[rev];exact jl rfl (ziz (w:=fun x=>zk zcx (aC x aN)) (p:=3) (q:=1) (gs:=y9) hk ht (by simp;omega) (fun z hz=>mr.things z (z3c.mp hz)) (fun z hz=>ml.things z (z3c.mp hz)) (no (zie (xs:=[]) mr)) (no (zie (xs:=[]) ml)) _ S rfl rfl rfl rfl rfl (by decide) (by decide) (fun ev h=>zg (a_c (e_v h) a_n) (zmo mr S)) (fun ev h=>zg (a_c (e_v h) a_n) (zmo ml S)))
theorem zdw(ml:Mk k l lt lh)(mr:Mk k r rt rh)(ht:Thing k t)(hn:lt.length+1+rt.length<=2000)(S:Sto) :
   x9 [x6 k,l,t,r] S=some (.tup [zaf k (lt++t::rt),zaf k (lt++t::rt).reverse],S):=by
 by_cases hk:k=0
 · subst hk;simp[x9,z5,zas,x6,zw,sIf,qk,bE,e2,eV,eK,zdb,zlo,zap,eA,aC,aN,zov,zcf]
 · have o:=zk3 hk ml mr ht hn;have b:=zhn hk ml mr ht hn;rcases zmq (k:=k) hk with⟨zz,hav⟩ | ⟨zz,hav⟩<;>rw[hav]at o b ⊢<;>simp only[x9,z5,zas] <;>
   simp[zw,sIf,qk,je,bE,e2,eV,eK,zdb,zlo,zap,eA,aC,aN,zov,zk,o,b]
def wd(ad:D)(n:Int):MO:=.ins "Wood" [("adding",ad),("nodes_made",.int n)]
theorem na:((Str.ofString "nodes_made")==(Str.ofString "adding"))=false:=by decide +kernel
theorem na':¬ (Str.ofString "adding"=Str.ofString "nodes_made"):=by decide +kernel
theorem na2:((Str.ofString "numbered")==(Str.ofString "adding"))=false:=by decide +kernel
theorem na3:((Str.ofString "numbered")==(Str.ofString "nodes_made"))=false:=by decide +kernel
theorem na4:((Str.ofString "node")==(Str.ofString "adding"))=false:=by decide +kernel
theorem na5:((Str.ofString "node")==(Str.ofString "nodes_made"))=false:=by decide +kernel
theorem na8:((Str.ofString "turned")==(Str.ofString "adding"))=false:=by decide +kernel
theorem na9:((Str.ofString "turned")==(Str.ofString "nodes_made"))=false:=by decide +kernel
theorem zcm{i:Nat}{av:D}{n:Int}{xs:List D}(h:S[i]? = some (wd av n))(hl:1+xs.length<=sizeLine) :
   j8 [.obj i,.tup xs] S=some (.tup (.int n::xs),S.set i (wd av (n+1))):=by
 have h1:(1:Nat)<=sizeLine:=by decide
 unfold wd at h ⊢;simp[j8,z5,zaw,zw,qv,zs4,eV,zct,h,zi8,e2,qm,eK,qk,zap,aC,aN,eA,zo7,List.lookup,na,na',hl,h1]
def wfs(av:D)(n:Int):List (Str×D):=[("adding",av),("nodes_made",.int n)]
theorem qw{i:Nat}{av:D}{n:Int}(h:S[i]? = some (wd av n)):zct (Str.ofString "Wood") S (.obj i)=some (i,wfs av n):=by simp[zct,h,wd,wfs]
theorem j5(av:D)(n:Int):(wfs av n).lookup (Str.ofString "node")=none:=by simp[wfs,List.lookup,na4,na5]
theorem zcd(av:D)(n:Int):(wfs av n).lookup (Str.ofString "turned")=none:=by simp[wfs,List.lookup,na8,na9]
theorem zjx(av:D)(n:Int):(wfs av n).lookup (Str.ofString "adding")=some av:=by simp[wfs,List.lookup]
theorem zce(av:D)(n:Int):(wfs av n).lookup (Str.ofString "numbered")=none:=by simp[wfs,List.lookup,na2,na3]
theorem ku{f:E}(h:f ev S=some (d,S1)):zbi f ev S=some (.nx ev,S1):=by simp[zbi,h]
theorem zzc{N n:Nat}{c:C}{ds:List D}{S S':Sto}{e:Ev}(hl:ds.length=n)(h:c (ds.map some++List.replicate (N-ds.length) none) S=some (.nx e,S')):z5 N n c ds S=some (.non,S'):=by unfold z5;rw[z1t hl,h]
theorem zyo{x y:Int}(h:x<=y):zck (.int x) (.int y)=some (.bl false):=by show some (D.bl (decide (y<x)))=_;rw[z1b (by omega)]
theorem zdy{m:Nat}(h:m<=2000)(S:Sto):xq [.int m] S=some (.non,S):=zzc rfl (zp (jb (e_2 (e_v rfl) e_k (zyo (by omega)))))
theorem zri{i:Nat}{n:Int}(h:S[i]? = some (wd (x6 k) n))(ml:Mk k l lt lh)(mr:Mk k r rt rh)(ht:Thing k t)(h1:lh<=rh+1)(h2:rh<=lh+1)(hn:lt.length+1+rt.length<=2000) :
   qd [.obj i,l,t,r] S=some (mkD n false l t r (lt.length+1+rt.length:Nat) (max lh rh+1:Nat) (zaf k (lt++t::rt)) (zaf k (lt++t::rt).reverse),S.set i (wd (x6 k) (n+1))):=by
 have hz:sizeLine=16777216:=z14;have q:=zdx ml mr S;have b:=y7 ml mr S;have hh:=zcv ml mr S;have sa:=zdw ml mr ht hn S;rw[z1c (show lh<=rh+1/\rh<=lh+1 from⟨h1,h2⟩)]at b;exact jl rfl (zh (zo (zg (a_c (e_v rfl) (a_c (e_v rfl) a_n)) q)) (zh (ku (zg (a_c (e_v rfl) a_n) (zdy hn S))) (zh (zp (zop (jb (zg (a_c (e_v rfl) (a_c (e_v rfl) a_n)) b)))) (zh (zo (ym (a_c (e_v rfl) (a_c (zg (a_c (e_v rfl) (a_c (e_v rfl) a_n)) hh) a_n)) (by simp))) (zh (zo (zg (a_c (zy0 (e_v rfl) (qw h) (zjx _ _)) (a_c (e_v rfl) (a_c (e_v rfl) (a_c (e_v rfl) a_n)))) sa)) (zt (xa (e_v rfl) (qw h) (zce _ _) (a_c (e_2 (e_2 (ym (a_c e_k (a_c (e_v rfl) (a_c (e_v rfl) (a_c (e_v rfl) a_n)))) (by simp)) (e_v rfl) (ze3 (by simp))) (e_v rfl) (ze3 (by simp))) a_n) (zcm h (by simp;omega)))))))))
theorem zrj{n:Int}(ml:Mk k l lt lh)(mr:Mk k r rt rh)(ht:Thing k t)(h1:lh<=rh+1)(h2:rh<=lh+1) :
   Mk k (mkD n false l t r (lt.length+1+rt.length:Nat) (max lh rh+1:Nat) (zaf k (lt++t::rt)) (zaf k (lt++t::rt).reverse)) (lt++t::rt) (max lh rh+1):=by
 have:=Mk.node (num:=n) (a:=false) ml mr ht h1 h2;simpa [ord] using this
theorem zi3{i:Nat}:q8 [.obj i,.non] S=some (.non,S):=rfl
theorem zmx{i:Nat}{n num:Int}{av:D}{a:Bool}{sz ht:Int}{to ba:D}(h:S[i]? = some (wd av n)) :
   q8 [.obj i,mkD num a l t r sz ht to ba] S=some (mkD n (!a) l t r sz ht ba to,S.set i (wd av (n+1))):=by
 have hz:sizeLine=16777216:=z14;unfold mkD;exact jl rfl (zh (zp (jb (e_2 (e_v rfl) e_k rfl))) (zh (zo (ym (a_c (qj (e_v rfl) e_k rfl) (a_c (qj (e_v rfl) e_k rfl) (a_c (qj (e_v rfl) e_k rfl) a_n))) (by simp))) (zt (xa (e_v rfl) (qw h) (zce _ _) (a_c (e_2 (e_2 (ym (a_c (zv1 (qj (e_v rfl) e_k rfl)) a_n) (by simp)) (e_v rfl) (ze3 (by simp))) (ym (a_c (zg (a_c (e_v rfl) a_n) (zoz _ _ _ _ _ _ _ _ _ _)) (a_c (zg (a_c (e_v rfl) a_n) (zim _ _ _ _ _ _ _ _ _ _)) (a_c (zg (a_c (e_v rfl) a_n) (zp3 _ _ _ _ _ _ _ _ _ _)) (a_c (zg (a_c (e_v rfl) a_n) (zj3 _ _ _ _ _ _ _ _ _ _)) a_n)))) (by simp)) (ze3 (by simp))) a_n) (zcm h (by simp;omega))))))
theorem zj0{num n:Int}{a:Bool}{sz ht:Int}{to ba:D}(m:Mk k (mkD num a l t r sz ht to ba) ts h):Mk k (mkD n (!a) l t r sz ht ba to) ts.reverse h:=by
 generalize hd:mkD num a l t r sz ht to ba=d at m;cases m with
 |non=>cases hd
 | @node num' a' l' t' r' lt rt lh rh ml mr ht' h1 h2=>
   unfold mkD at hd;injection hd with hd;simp only[z2l,D.int.injEq,D.bl.injEq,and_true]at hd;obtain⟨rfl,rfl,rfl,rfl,rfl,rfl,rfl,rfl,rfl⟩:=hd;have:=Mk.node (num:=n) (a:=!a) ml mr ht' h1 h2;have e:ord (!a) (lt++t::rt)=(ord a (lt++t::rt)).reverse:=by cases a<;>simp[ord]
   rw[e,List.reverse_reverse]at this;exact this
theorem ze6(S:Sto)(av:D):qx [.obj S.length,av] (S++[.ins (Str.ofString "Wood") []])=some (.non,S++[wd av 0]):=by
 have q1:(S++[MO.ins (Str.ofString "Wood") []])[S.length]? = some (MO.ins (Str.ofString "Wood") []):=by simp
 have q2:∀a b:MO,(S++[a]).set S.length b=S++[b]:=by intro a b;simp
 have q3:∀a:MO,(S++[a])[S.length]? = some a:=by intro a;simp
 simp[qx,z5,k9,zw,zi8,eV,eK,zct,zo7,na',wd,q1,q2,q3]
theorem zos{g:E}{av:D}(h:g ev S=some (av,S)):zel (Str.ofString "Wood") qx (aC g aN) ev S=some (.obj S.length,S++[wd av 0]):=by simp[zel,aC,aN,h,ze6]
theorem zp9:zel (Str.ofString "Wood") (zv9 1 qx) aN ev S=some (.obj S.length,S++[wd .non 0]):=by have:=ze6 S .non;simp[zel,aN,zv9,this]
inductive Tnd (n:Int):D->D->Int->Prop where
 |non:Tnd n .non .non n
 |node {num:Int}{a:Bool}{l t r:D}{sz ht:Int}{to ba:D}:Tnd n (mkD num a l t r sz ht to ba) (mkD n (!a) l t r sz ht ba to) (n+1)
structure At (S S':Sto) (i:Nat) (av:D) (n n':Int):Prop where
 at_:S'[i]? = some (wd av n')
 le:n<=n'
 ne:∀j,j≠i->S'[j]? = S[j]?
 len:S'.length=S.length
theorem At.refl{i:Nat}{av:D}{n:Int}(h:S[i]? = some (wd av n)):At S S i av n n:=⟨h,Int.le_refl _,fun _ _=>rfl,rfl⟩
theorem At.set{i:Nat}{av:D}{n n':Int}(h:S[i]? = some (wd av n))(hn:n<=n'):At S (S.set i (wd av n')) i av n n':=⟨ztt h,hn,fun j hj=>zts (z3v hj) _,by simp⟩
theorem At.trans {S2:Sto}{i:Nat}{av:D}{n n' n'':Int} (a:At S S1 i av n n') (b:At S1 S2 i av n' n''):At S S2 i av n n'':=⟨b.at_,Int.le_trans a.le b.le,fun j hj=>(b.ne j hj).trans (a.ne j hj),b.len.trans a.len⟩
theorem zbq{i:Nat}{av:D}{n:Int}(m:Mk k d ts h)(hw:S[i]? = some (wd av n)):∃d' n' S',q8 [.obj i,d] S=some (d',S')/\Mk k d' ts.reverse h/\Tnd n d d' n'/\At S S' i av n n':=by
 have m0:=m;cases m with
 |non=>exact⟨.non,n,S,zi3,.non,.non,At.refl hw⟩
 |node ml mr ht h1 h2=>exact⟨_,_,_,zmx hw,zj0 m0,.node,At.set hw (by omega)⟩
theorem znm{i:Nat}{n num:Int}{av:D}{a:Bool}{sz ht:Int}{to ba:D}(m:Mk k (mkD num a l t r sz ht to ba) ts h)(hw:S[i]? = some (wd av n)) :
   ∃x y n' S' xt yt xh yh,xc [.obj i,mkD num a l t r sz ht to ba] S=some (.tup [x,t,y],S')/\At S S' i av n n'/\Mk k x xt xh/\Mk k y yt yh/\ts=xt++t::yt/\h=max xh yh+1/\xh<=yh+1/\yh<=xh+1/\Thing k t /\
     ((a=false/\x=l/\y=r/\n'=n/\S'=S)\/(a=true/\∃n1,Tnd n r x n1/\Tnd n1 l y n')):=by
 have hs:(3:Nat)<=16777216:=by decide
 generalize hd:mkD num a l t r sz ht to ba=d at m;cases m with
 |non=>cases hd
 | @node num' a' l' t' r' lt rt lh rh ml mr ht' h1 h2=>
   unfold mkD at hd;injection hd with hd;simp only[z2l,D.int.injEq,D.bl.injEq,and_true]at hd;obtain⟨rfl,rfl,rfl,rfl,rfl,rfl,rfl,rfl,rfl⟩:=hd;generalize ((lt.length+1+rt.length:Nat):Int)=sz;generalize ((max lh rh+1:Nat):Int)=hh;generalize zaf k (ord a (lt++t::rt))=to;generalize zaf k (ord a (lt++t::rt)).reverse=ba;cases a
   · refine⟨l,r,n,S,lt,rt,lh,rh,?_,At.refl hw,ml,mr,rfl,rfl,h1,h2,ht',.inl ⟨rfl,rfl,rfl,rfl,rfl⟩⟩;rfl
   · obtain⟨x,n1,S1,c1,mx,t1,w1⟩:=zbq mr hw;obtain⟨y,n2,S2,c2,my,t2,w2⟩:=zbq ml w1.at_;refine⟨x,y,n2,S2,rt.reverse,lt.reverse,rh,lh,?_,w1.trans w2,mx,my,by simp[ord],by rw[Nat.max_comm],h2,h1,ht',.inr ⟨rfl,n1,t1,t2⟩⟩;have f0:zcb (bE (e2s qf (eV 1) (eK (.int 1)))) [some (.obj i),some (.tup [.int num,.bl true,l,t,r,.int sz,.int hh,to,ba]),none,none] S=some (false,S):=rfl;have f1:qv 2 (x3 "Wood" "turned" q8 (eV 0) (aC (e2s qf (eV 1) (eK (.int 4))) aN)) [some (.obj i),some (.tup [.int num,.bl true,l,t,r,.int sz,.int hh,to,ba]),none,none] S=some (.nx [some (.obj i),some (.tup [.int num,.bl true,l,t,r,.int sz,.int hh,to,ba]),some x,none],S1) :=
       zo (xa (e_v rfl) (qw hw) (zcd _ _) (a_c (qj (e_v rfl) e_k rfl) a_n) c1)
     have f2:qv 3 (x3 "Wood" "turned" q8 (eV 0) (aC (e2s qf (eV 1) (eK (.int 2))) aN)) [some (.obj i),some (.tup [.int num,.bl true,l,t,r,.int sz,.int hh,to,ba]),some x,none] S1=some (.nx [some (.obj i),some (.tup [.int num,.bl true,l,t,r,.int sz,.int hh,to,ba]),some x,some y],S2) :=
       zo (xa (e_v rfl) (qw w1.at_) (zcd _ _) (a_c (qj (e_v rfl) e_k rfl) a_n) c2)
     have f3:qk (zap (aC (eV 2) (aC (e2s qf (eV 1) (eK (.int 3))) (aC (eV 3) aN)))) [some (.obj i),some (.tup [.int num,.bl true,l,t,r,.int sz,.int hh,to,ba]),some x,some y] S2=some (.rt (.tup [x,t,y]),S2):=by unfold qk;rw[ym (a_c (e_v rfl) (a_c (qj (e_v rfl) e_k rfl) (a_c (e_v rfl) a_n))) (by simp)];rfl
     simp only[xc,z5,zmg,mkD];simp only[List.length_cons,List.length_nil,Nat.reduceAdd,z4e,z1g,List.map_nil,Nat.reduceSub,List.replicate,List.cons_append,List.nil_append];simp only[zw,sIf,f0,Option.bind_some,z3m,if_false,je,f1,f2,f3]
end Pg
namespace Pg
open PySem L2 F Mt
variable {k:Nat} [Kd k] {d l r t x y:D}{ts lt rt:List D}{h lh rh i:Nat}{n:Int}{S S0 S1:Sto}{ev e:Ev}{P Q:D->Prop}{a b new:List D}
def num:D->Int
 | .tup (.int n::_)=>n
 |_=>0
inductive All (P:D->Prop):D->Prop where
 |non:All P .non
 |node {m:Int}{a:Bool}{l t r:D}{sz ht:Int}{to ba:D}:P (mkD m a l t r sz ht to ba)->All P l->All P r->All P (mkD m a l t r sz ht to ba)
theorem All.inv{m:Int}{a:Bool}{sz ht:Int}{to ba:D}(h:All P (mkD m a l t r sz ht to ba)):All P l/\All P r:=by
 generalize e:mkD m a l t r sz ht to ba=d at h;cases h with
 |non=>cases e
 | node _ b c=>
   unfold mkD at e;injection e with e;simp only[z2l,and_true]at e;obtain⟨_,_,rfl,_,rfl,_⟩:=e;exact⟨b,c⟩
theorem All.mono(h:All P d)(f:∀v,P v->Q v):All Q d:=by
 induction h with
 |non=>exact .non
 |node a _ _ b c=>exact .node (f _ a) b c
def Ac(P:D->Prop)(n:Int)(new:List D)(v:D):Prop:=P v\/∃j:Nat,new[j]? = some v/\num v=n+j
theorem Ac.app{v:D}(h:Ac P n a v):Ac P n (a++b) v:=h.imp id fun⟨j,h1,h2⟩=>⟨j,by rw[z1k (z06.mp h1).1,h1],h2⟩
theorem Ac.two{v:D}(h:Ac (Ac P n a) (n+a.length) b v):Ac P n (a++b) v:=by
 rcases h with h | ⟨j,h1,h2⟩
 · exact h.app
 · exact .inr ⟨a.length+j,by rw[z1a (z2b _ _),Nat.add_sub_cancel_left,h1],by omega⟩
theorem All.old(h:All P d):All (Ac P n a) d:=h.mono fun _=>.inl
theorem All.app(h:All (Ac P n a) d):All (Ac P n (a++b)) d:=h.mono fun _=>Ac.app
theorem All.two(h:All (Ac (Ac P n a) (n+a.length) b) d):All (Ac P n (a++b)) d:=h.mono fun _=>Ac.two
abbrev Wt(k i:Nat)(S:Sto)(n:Int)(new:List D)(S':Sto):Prop:=At S S' i (x6 k) n (n+new.length)
theorem Wt.nil(hw:S[i]? = some (wd (x6 k) n)):Wt k i S n [] S:=by have:=At.refl hw;unfold Wt;rw[show n+(([]:List D).length:Int)=n from z4f n];exact this
theorem Wt.two(w:Wt k i S0 n a S)(w':Wt k i S (n+a.length) b S1):Wt k i S0 n (a++b) S1:=by
 have:=At.trans w w';have e:n+(a.length:Int)+b.length=n+((a++b).length:Nat):=by rw[z03];omega
 unfold Wt;rw[<-e];exact this
structure Top (a b h:Nat):Prop where
 l:a<h
 r:b<h
 e:h=a+1\/h=b+1
theorem zgl(a b:Nat):Top a b (max a b+1):=⟨by omega,by omega,by omega⟩
structure Res (k i:Nat) (S:Sto) (n:Int) (P:D->Prop) (ts:List D) (d:D) (h:Nat) (new:List D) (S':Sto):Prop where
 mm:Mk k d ts h
 wt:Wt k i S n new S'
 all:All (Ac P n new) d
theorem Res.after(w:Wt k i S0 n a S)(r:Res k i S (n+a.length) (Ac P n a) ts d h new S1):Res k i S0 n P ts d h (a++new) S1:=⟨r.mm,w.two r.wt,r.all.two⟩
theorem x8(hw:S[i]? = some (wd (x6 k) n))(ml:Mk k l lt lh)(mr:Mk k r rt rh)(ht:Thing k t)(h1:lh<=rh+1)(h2:rh<=lh+1)(hn:lt.length+1+rt.length<=2000)(al:All P l)(ar:All P r) :
   ∃d S' h,qd [.obj i,l,t,r] S=some (d,S')/\Res k i S n P (lt++t::rt) d h [d] S'/\Top lh rh h :=
 ⟨_,_,_,zri hw ml mr ht h1 h2 hn,⟨zrj ml mr ht h1 h2,At.set hw (by omega),.node (.inr ⟨0,rfl,(z4f n).symm⟩) al.old ar.old⟩,zgl _ _⟩
theorem Tnd.ac{d':D}{n1:Int}(t:Tnd n d d' n1)(a:All P d):∃new:List D,n1=n+new.length/\All (Ac P n new) d'/\new.length<=1:=by
 cases t with
 |non=>exact⟨[],(z4f n).symm,.non,by simp⟩
 |node=>exact⟨[_],rfl,.node (.inr ⟨0,rfl,(z4f n).symm⟩) a.inv.1.old a.inv.2.old,by simp⟩
theorem zmy(m:Mk k d ts h)(hw:S[i]? = some (wd (x6 k) n))(al:All P d):∃d' new S',q8 [.obj i,d] S=some (d',S')/\Res k i S n P ts.reverse d' h new S'/\new.length<=1:=by obtain⟨d',n',S',c,m',t,w⟩:=zbq m hw;obtain⟨new,rfl,al',hl⟩:=t.ac al;exact⟨d',new,S',c,⟨m',w,al'⟩,hl⟩
structure Pts (k i:Nat) (S:Sto) (n:Int) (P:D->Prop) (ts:List D) (h:Nat) (x t y:D) (xt yt:List D) (xh yh:Nat) (new:List D) (S':Sto):Prop where
 wt:Wt k i S n new S'
 mx:Mk k x xt xh
 my:Mk k y yt yh
 ht:Thing k t
 hts:ts=xt++t::yt
 hh:Top xh yh h
 h1:xh<=yh+1
 h2:yh<=xh+1
 ax:All (Ac P n new) x
 ay:All (Ac P n new) y
 few:new.length<=2
theorem kx(m:Mk k d ts h)(hh:0<h)(hw:S[i]? = some (wd (x6 k) n))(al:All P d) :
   ∃x t y xt yt xh yh new S',xc [.obj i,d] S=some (.tup [x,t,y],S')/\Pts k i S n P ts h x t y xt yt xh yh new S':=by
 have m0:=m;cases m with
 |non=>omega
 | @node num a l t r lt rt lh rh ml mr ht h1 h2=>
   obtain⟨x,y,n',S',xt,yt,xh,yh,c,w,mx,my,e1,e2,q1,q2,q3,q⟩:=znm m0 hw;rcases q with⟨_,rfl,rfl,rfl,rfl⟩ | ⟨_,n1,t1,t2⟩
   · exact⟨x,t,y,xt,yt,xh,yh,[],_,c,⟨Wt.nil hw,mx,my,q3,e1,e2▸zgl _ _,q1,q2,al.inv.1.old,al.inv.2.old,by simp⟩⟩
   · obtain⟨a1,rfl,b1,c1⟩:=t1.ac al.inv.2;obtain⟨a2,rfl,b2,c2⟩:=t2.ac (al.inv.1.old (n:=n) (a:=a1));refine⟨x,t,y,xt,yt,xh,yh,a1++a2,S',c,⟨?_,mx,my,q3,e1,e2▸zgl _ _,q1,q2,b1.app,b2.two,by rw[z03];omega⟩⟩;have e:n+(a1.length:Int)+a2.length=n+((a1++a2).length:Nat):=by rw[z03];omega
     unfold Wt;rw[<-e];exact w
theorem zw6(x y:Nat):zpf (.int x) (.int y)=some (.bl (decide (y<=x))):=z2f (fun b=>some (D.bl b)) (z3d.mpr Int.ofNat_le)
theorem zs1(x y:Nat):zck (.int x) (.int y)=some (.bl (decide (y<x))):=z2f (fun b=>some (D.bl b)) (z3d.mpr Int.ofNat_lt)
theorem zw0(a b c:List D):(a++t::b).length+1+c.length=a.length+1+(b++x::c).length:=by simp only[z03,List.length_cons];omega
theorem zw8(a b c:List D):a++t::(b++x::c)=a++t::b++x::c:=by simp
theorem zu3{a b:List D}{m:Nat}(h:(a++t::b).length+1+m<=2000):b.length+1+m<=2000:=by simp only[z03,List.length_cons]at h;omega
theorem zu1{a b:List D}{m:Nat}(h:m+1+(a++t::b).length<=2000):m+1+a.length<=2000:=by simp only[z03,List.length_cons]at h;omega
theorem zz3{a:List D}(h:a.length<=2):(a++[x]++[y]).length<=7:=by simp only[z03,List.length_cons,List.length_nil];omega
theorem zz2{a b:List D}(h:a.length<=2)(h':b.length<=2):(a++b++[x]++[y]++[t]).length<=7:=by simp only[z03,List.length_cons,List.length_nil];omega
theorem zz1{a b c:List D}{f:Nat}(h:a.length<=2)(h':b.length<=9*f+1)(h3:c.length<=7):(a++b++c).length<=9*(f+1)+1:=by simp only[z03];omega
theorem zyg{a b c:List D}{m:Nat}(h:(a++t::(b++x::c)).length+1+m<=2000):a.length+1+b.length<=2000:=by simp only[z03,List.length_cons]at h;omega
theorem zyf{a b c:List D}{m:Nat}(h:(a++t::(b++x::c)).length+1+m<=2000):c.length+1+m<=2000:=by simp only[z03,List.length_cons]at h;omega
theorem zye{a b c e:List D}(h:(a++t::(b++x::c)).length+1+e.length<=2000):(a++t::b).length+1+(c++y::e).length<=2000:=by simp only[z03,List.length_cons]at h ⊢;omega
theorem zyd{a b c:List D}{m:Nat}(h:m+1+(a++t::b++x::c).length<=2000):m+1+a.length<=2000:=by simp only[z03,List.length_cons]at h;omega
theorem zyc{a b c:List D}{m:Nat}(h:m+1+(a++t::b++x::c).length<=2000):b.length+1+c.length<=2000:=by simp only[z03,List.length_cons]at h;omega
theorem zyb{a b c e:List D}(h:e.length+1+(a++t::b++x::c).length<=2000):(e++y::a).length+1+(b++x::c).length<=2000:=by simp only[z03,List.length_cons]at h ⊢;omega
theorem z0y(a b c e:List D):a++t::b++x::(c++y::e)=a++t::(b++x::c)++y::e:=by simp
theorem z0x(a b c e:List D):a++t::b++x::(c++y::e)=a++t::(b++x::c++y::e):=by simp
theorem up1{xh yh rh lh:Nat}(hh:lh=rh+2)(p:Top xh yh lh)(q1:xh<=yh+1)(q2:yh<=xh+1)(hg:yh<=xh):yh<=rh+1/\rh<=yh+1/\∀g,Top yh rh g->(xh<=g+1/\g<=xh+1/\∀z,Top xh g z->lh<=z/\z<=lh+1):=by obtain⟨p1,p2,p3⟩:=p;refine⟨by omega,by omega,fun g ⟨g1,g2,g3⟩=>⟨by omega,by omega,fun z ⟨z1,z2,z3⟩=>⟨by omega,by omega⟩⟩⟩
theorem up2{xh yh rh lh xh' yh':Nat}(hh:lh=rh+2)(p:Top xh yh lh)(q1:xh<=yh+1)(q2:yh<=xh+1)(hg:¬ yh<=xh)(p':Top xh' yh' yh)(q3:xh'<=yh'+1)(q4:yh'<=xh'+1) :
   (xh<=xh'+1/\xh'<=xh+1)/\(yh'<=rh+1/\rh<=yh'+1)/\∀g g',Top xh xh' g->Top yh' rh g'->(g<=g'+1/\g'<=g+1/\∀z,Top g g' z->lh<=z/\z<=lh+1):=by
 obtain⟨p1,p2,p3⟩:=p;obtain⟨p4,p5,p6⟩:=p';have e1:xh=rh:=by omega
 have e2:yh=rh+1:=by omega
 subst e1 e2;refine⟨⟨by omega,by omega⟩,⟨by omega,by omega⟩,fun g g' ⟨g1,g2,g3⟩ ⟨g4,g5,g6⟩=>?_⟩;have e3:g=xh+1:=by omega
 have e4:g'=xh+1:=by omega
 subst e3 e4;exact⟨by omega,by omega,fun z ⟨z1,z2,z3⟩=>⟨by omega,by omega⟩⟩
theorem Top.sym{a b h:Nat}(p:Top a b h):Top b a h:=⟨p.r,p.l,p.e.symm⟩
theorem zdd(hw:S[i]? = some (wd (x6 k) n))(ml:Mk k l lt lh)(mr:Mk k r rt rh)(ht:Thing k t)(hh:lh=rh+2)(hn:lt.length+1+rt.length<=2000)(al:All P l)(ar:All P r) :
   ∃d h new S',zaa [.obj i,l,t,r] S=some (d,S')/\Res k i S n P (lt++t::rt) d h new S'/\(lh<=h/\h<=lh+1)/\new.length<=7:=by
 obtain⟨x,u,y,xt,yt,xh,yh,w1,S1,c1,p⟩:=kx ml (by omega) hw al;have e1:=p.hts;subst e1;have e2:=p.hh;have f1:=p.few;by_cases hg:yh<=xh
 · obtain⟨k1,k2,k3⟩:=up1 hh p.hh p.h1 p.h2 hg;have hge:zpf (.int xh) (.int yh)=some (.bl true):=by rw[zw6,z1c hg]
   clear hg;obtain⟨d1,S2,g1,c2,r2,t2⟩:=x8 p.wt.at_ p.my mr ht k1 k2 (zu3 hn) p.ay ar.old;have r2:=r2.after p.wt;obtain⟨k4,k5,k6⟩:=k3 _ t2;obtain⟨d2,S3,g2,c3,r3,t3⟩:=x8 r2.wt.at_ p.mx r2.mm p.ht k4 k5 (by rw[<-zw0];exact hn) p.ax.app r2.all;have r3:=r3.after r2.wt;exact⟨d2,_,_,S3,jl rfl (zh (zo (zg (a_c (e_v rfl) (a_c (e_v rfl) a_n)) c1)) (qp (qh (jb (e_2 (zg (a_c (qj (e_v rfl) e_k rfl) a_n) (qt p.mx S1)) (zg (a_c (qj (e_v rfl) e_k rfl) a_n) (qt p.my S1)) hge)) (zt (xa (e_v rfl) (qw p.wt.at_) (j5 _ _) (a_c (qj (e_v rfl) e_k rfl) (a_c (qj (e_v rfl) e_k rfl) (a_c (xa (e_v rfl) (qw p.wt.at_) (j5 _ _) (a_c (qj (e_v rfl) e_k rfl) (a_c (e_v rfl) (a_c (e_v rfl) a_n))) c2) a_n))) c3))))),zw8 xt yt rt▸r3,k6 _ t3,zz3 f1⟩
 · have hge:zpf (.int xh) (.int yh)=some (.bl false):=by rw[zw6,z1b hg]
   obtain⟨x',v,y',xt',yt',xh',yh',w2,S2,c2,p2⟩:=kx p.my (by omega) p.wt.at_ p.ay;have e3:=p2.hts;subst e3;obtain⟨⟨k1,k2⟩,⟨k3,k4⟩,k5⟩:=up2 hh p.hh p.h1 p.h2 hg p2.hh p2.h1 p2.h2;have f2:=p2.few;clear hg e2;have wt2:=p.wt.two p2.wt;obtain⟨d1,S3,g1,c3,r3,t3⟩:=x8 wt2.at_ p.mx p2.mx p.ht k1 k2 (zyg hn) p.ax.app p2.ax.two;have r3:=r3.after wt2;obtain⟨d2,S4,g2,c4,r4,t4⟩:=x8 r3.wt.at_ p2.my mr ht k3 k4 (zyf hn) p2.ay.two.app ar.old;have r4:=r4.after r3.wt;obtain⟨k6,k7,k8⟩:=k5 _ _ t3 t4;obtain⟨d3,S5,g3,c5,r5,t5⟩:=x8 r4.wt.at_ r3.mm r4.mm p2.ht k6 k7 (zye hn) r3.all.app r4.all;have r5:=r5.after r4.wt;exact⟨d3,_,_,S5,jl rfl (zh (zo (zg (a_c (e_v rfl) (a_c (e_v rfl) a_n)) c1)) (zh (zp (jb (e_2 (zg (a_c (qj (e_v rfl) e_k rfl) a_n) (qt p.mx S1)) (zg (a_c (qj (e_v rfl) e_k rfl) a_n) (qt p.my S1)) hge))) (zh (zo (zg (a_c (e_v rfl) (a_c (qj (e_v rfl) e_k rfl) a_n)) c2)) (zh (zo (xa (e_v rfl) (qw wt2.at_) (j5 _ _) (a_c (qj (e_v rfl) e_k rfl) (a_c (qj (e_v rfl) e_k rfl) (a_c (qj (e_v rfl) e_k rfl) a_n))) c3)) (zh (zo (xa (e_v rfl) (qw r3.wt.at_) (j5 _ _) (a_c (qj (e_v rfl) e_k rfl) (a_c (e_v rfl) (a_c (e_v rfl) a_n))) c4)) (zt (xa (e_v rfl) (qw r4.wt.at_) (j5 _ _) (a_c (e_v rfl) (a_c (qj (e_v rfl) e_k rfl) (a_c (e_v rfl) a_n))) c5))))))),z0y xt xt' yt' rt▸r5,k8 _ t5,zz2 f1 f2⟩
theorem zco(hw:S[i]? = some (wd (x6 k) n))(ml:Mk k l lt lh)(mr:Mk k r rt rh)(ht:Thing k t)(hh:rh=lh+2)(hn:lt.length+1+rt.length<=2000)(al:All P l)(ar:All P r) :
   ∃d h new S',yj [.obj i,l,t,r] S=some (d,S')/\Res k i S n P (lt++t::rt) d h new S'/\(rh<=h/\h<=rh+1)/\new.length<=7:=by
 obtain⟨x,u,y,xt,yt,xh,yh,w1,S1,c1,p⟩:=kx mr (by omega) hw ar;have e1:=p.hts;subst e1;have e2:=p.hh;have f1:=p.few;by_cases hg:xh<=yh
 · obtain⟨k1,k2,k3⟩:=up1 hh p.hh.sym p.h2 p.h1 hg;have hge:zpf (.int yh) (.int xh)=some (.bl true):=by rw[zw6,z1c hg]
   clear hg;obtain⟨d1,S2,g1,c2,r2,t2⟩:=x8 p.wt.at_ ml p.mx ht k2 k1 (zu1 hn) al.old p.ax;have r2:=r2.after p.wt;obtain⟨k4,k5,k6⟩:=k3 _ t2.sym;obtain⟨d2,S3,g2,c3,r3,t3⟩:=x8 r2.wt.at_ r2.mm p.my p.ht k5 k4 (by rw[zw0];exact hn) r2.all p.ay.app;have r3:=r3.after r2.wt;exact⟨d2,_,_,S3,jl rfl (zh (zo (zg (a_c (e_v rfl) (a_c (e_v rfl) a_n)) c1)) (qp (qh (jb (e_2 (zg (a_c (qj (e_v rfl) e_k rfl) a_n) (qt p.my S1)) (zg (a_c (qj (e_v rfl) e_k rfl) a_n) (qt p.mx S1)) hge)) (zt (xa (e_v rfl) (qw p.wt.at_) (j5 _ _) (a_c (xa (e_v rfl) (qw p.wt.at_) (j5 _ _) (a_c (e_v rfl) (a_c (e_v rfl) (a_c (qj (e_v rfl) e_k rfl) a_n))) c2) (a_c (qj (e_v rfl) e_k rfl) (a_c (qj (e_v rfl) e_k rfl) a_n))) c3))))),(zw8 lt xt yt).symm▸r3,k6 _ t3.sym,zz3 f1⟩
 · have hge:zpf (.int yh) (.int xh)=some (.bl false):=by rw[zw6,z1b hg]
   obtain⟨x',v,y',xt',yt',xh',yh',w2,S2,c2,p2⟩:=kx p.mx (by omega) p.wt.at_ p.ax;have e3:=p2.hts;subst e3;obtain⟨⟨k1,k2⟩,⟨k3,k4⟩,k5⟩:=up2 hh p.hh.sym p.h2 p.h1 hg p2.hh.sym p2.h2 p2.h1;have f2:=p2.few;clear hg e2;have wt2:=p.wt.two p2.wt;obtain⟨d1,S3,g1,c3,r3,t3⟩:=x8 wt2.at_ ml p2.mx ht k4 k3 (zyd hn) al.old p2.ax.two;have r3:=r3.after wt2;obtain⟨d2,S4,g2,c4,r4,t4⟩:=x8 r3.wt.at_ p2.my p.my p.ht k2 k1 (zyc hn) p2.ay.two.app p.ay.app.app;have r4:=r4.after r3.wt;obtain⟨k6,k7,k8⟩:=k5 _ _ t4.sym t3.sym;obtain⟨d3,S5,g3,c5,r5,t5⟩:=x8 r4.wt.at_ r3.mm r4.mm p2.ht k7 k6 (zyb hn) r3.all.app r4.all;have r5:=r5.after r4.wt;exact⟨d3,_,_,S5,jl rfl (zh (zo (zg (a_c (e_v rfl) (a_c (e_v rfl) a_n)) c1)) (zh (zp (jb (e_2 (zg (a_c (qj (e_v rfl) e_k rfl) a_n) (qt p.my S1)) (zg (a_c (qj (e_v rfl) e_k rfl) a_n) (qt p.mx S1)) hge))) (zh (zo (zg (a_c (e_v rfl) (a_c (qj (e_v rfl) e_k rfl) a_n)) c2)) (zh (zo (xa (e_v rfl) (qw wt2.at_) (j5 _ _) (a_c (e_v rfl) (a_c (e_v rfl) (a_c (qj (e_v rfl) e_k rfl) a_n))) c3)) (zh (zo (xa (e_v rfl) (qw r3.wt.at_) (j5 _ _) (a_c (qj (e_v rfl) e_k rfl) (a_c (qj (e_v rfl) e_k rfl) (a_c (qj (e_v rfl) e_k rfl) a_n))) c4)) (zt (xa (e_v rfl) (qw r4.wt.at_) (j5 _ _) (a_c (e_v rfl) (a_c (qj (e_v rfl) e_k rfl) (a_c (e_v rfl) a_n))) c5))))))),z0x lt xt' yt' yt▸r5,k8 _ t5.sym,zz2 f1 f2⟩
structure Hi (a b h:Nat):Prop where
 l:a<=h
 r:b<=h
 m:∀z,a<=z->b<=z->h<=z+1
theorem Top.hi{a b h:Nat}(p:Top a b h):Hi a b h:=⟨z2y p.l,z2y p.r,fun z h1 h2=>by rcases p.e with rfl | rfl<;>omega⟩
theorem xm(hw:S[i]? = some (wd (x6 k) n))(ml:Mk k l lt lh)(mr:Mk k r rt rh)(ht:Thing k t)(h1:lh<=rh+2)(h2:rh<=lh+2)(hn:lt.length+1+rt.length<=2000)(al:All P l)(ar:All P r) :
   ∃d h new S',jy [.obj i,l,t,r] S=some (d,S')/\Res k i S n P (lt++t::rt) d h new S'/\Hi lh rh h/\(lh<=rh+1->rh<=lh+1->Top lh rh h)/\new.length<=7:=by
 have bl:=y7 ml mr S;by_cases hb:lh<=rh+1/\rh<=lh+1
 · rw[z1c hb]at bl;obtain⟨d1,S1,g1,c1,r1,t1⟩:=x8 hw ml mr ht hb.1 hb.2 hn al ar;exact⟨d1,_,_,S1,jl rfl (qp (qh (jb (zg (a_c (e_v rfl) (a_c (e_v rfl) a_n)) bl)) (zt (xa (e_v rfl) (qw hw) (j5 _ _) (a_c (e_v rfl) (a_c (e_v rfl) (a_c (e_v rfl) a_n))) c1)))),r1,t1.hi,fun _ _=>t1,z04 rfl⟩
 · rw[z1b hb]at bl;by_cases hg:rh<lh
   · have e:lh=rh+2:=by omega
     obtain⟨d1,h,w,S1,c1,r1,⟨q1,q2⟩,q3⟩:=zdd hw ml mr ht e hn al ar;exact⟨d1,h,w,S1,jl rfl (zh (zp (jb (zg (a_c (e_v rfl) (a_c (e_v rfl) a_n)) bl))) (qp (qh (jb (e_2 (zg (a_c (e_v rfl) a_n) (qt ml S)) (zg (a_c (e_v rfl) a_n) (qt mr S)) (by rw[zs1,z1c hg]))) (zt (zg (a_c (e_v rfl) (a_c (e_v rfl) (a_c (e_v rfl) (a_c (e_v rfl) a_n)))) c1))))),r1,⟨q1,z1u (z2y hg) q1,fun z z1 z2=>z1u q2 (z4b z1)⟩,fun u v=>absurd ⟨u,v⟩ hb,q3⟩
   · have e:rh=lh+2:=by omega
     obtain⟨d1,h,w,S1,c1,r1,⟨q1,q2⟩,q3⟩:=zco hw ml mr ht e hn al ar;exact⟨d1,h,w,S1,jl rfl (zh (zp (jb (zg (a_c (e_v rfl) (a_c (e_v rfl) a_n)) bl))) (zh (zp (jb (e_2 (zg (a_c (e_v rfl) a_n) (qt ml S)) (zg (a_c (e_v rfl) a_n) (qt mr S)) (by rw[zs1,z1b hg])))) (zt (zg (a_c (e_v rfl) (a_c (e_v rfl) (a_c (e_v rfl) (a_c (e_v rfl) a_n)))) c1)))),r1,⟨z1u (z4h.mp hg) q1,q1,fun z z1 z2=>z1u q2 (z4b z2)⟩,fun u v=>absurd ⟨u,v⟩ hb,q3⟩
theorem dn1{a b h z c:Nat}(p:Top a b h)(q1:a<=b+1)(q2:b<=a+1)(hz:z+2<=h)(j:Hi b z c):a<=c+2/\c<=a+2:=by obtain⟨p1,p2,p3⟩:=p;have:=j.l;have:=j.m (b) (z07 _) (by omega);omega
theorem dn2{a b h z c g:Nat}(p:Top a b h)(q1:a<=b+1)(q2:b<=a+1)(hz:z+2<=h)(j:Hi b z c)(q:Hi a c g)(w:a<=c+1->c<=a+1->Top a c g):Hi h z g:=by
 obtain⟨p1,p2,p3⟩:=p;have c1:=j.l;have c2:=j.m b (z07 _) (by omega);have g1:=q.l;have g2:=q.r;have:h<=g/\g<=h+1:=by
   by_cases hb:a<=c+1/\c<=a+1
   · obtain⟨w1,w2,w3⟩:=w hb.1 hb.2;omega
   · have g3:=q.m c (by omega) (z07 _);omega
 exact⟨this.1,by omega,fun y y1 _=>z1u this.2 (z4b y1)⟩
theorem dn3{a b h z f:Nat}(p:Top a b h)(q1:a<=b+1)(q2:b<=a+1)(hz:z+2<=h)(hf:h<=z+(f+1)):b<=z+f/\z<=b+f:=by obtain⟨p1,p2,p3⟩:=p;omega
theorem Hi.sym{a b h:Nat}(p:Hi a b h):Hi b a h:=⟨p.r,p.l,fun z u v=>p.m z v u⟩
theorem zak:∀(f c:Nat) {l r:D}{lt rt:List D}{lh rh:Nat}{n:Int}{S:Sto}{P:D->Prop},S[i]? = some (wd (x6 k) n)->Mk k l lt lh->Mk k r rt rh->Thing k t->lt.length+1+rt.length<=2000->All P l->All P r->lh<=rh+c->rh<=lh+c->c<f ->
   ∃d h new S',kj f [.obj i,l,t,r] S=some (d,S')/\Res k i S n P (lt++t::rt) d h new S'/\Hi lh rh h/\(lh<=rh+1->rh<=lh+1->Top lh rh h)/\new.length<=9*c+1
 |0,_,_,_,_,_,_,_,_,_,_,_,_,_,_,_,_,_,_,_,hf=>absurd hf (z33 _)
 | f+1,c,l,r,lt,rt,lh,rh,n,S,P,hw,ml,mr,ht,hn,al,ar,hc1,hc2,hf=>by
   have bl:=y7 ml mr S;by_cases hb:lh<=rh+1/\rh<=lh+1
   · rw[z1c hb]at bl;obtain⟨d1,S1,g1,c1,r1,t1⟩:=x8 hw ml mr ht hb.1 hb.2 hn al ar;exact⟨d1,_,_,S1,jl rfl (qp (qh (jb (zg (a_c (e_v rfl) (a_c (e_v rfl) a_n)) bl)) (zt (xa (e_v rfl) (qw hw) (j5 _ _) (a_c (e_v rfl) (a_c (e_v rfl) (a_c (e_v rfl) a_n))) c1)))),r1,t1.hi,fun _ _=>t1,Nat.le_add_left _ _⟩
   · rw[z1b hb]at bl;cases c with
     |zero=>omega
     | succ c=>
       by_cases hg:rh<lh
       · have hz:rh+2<=lh:=by omega
         clear hc2;obtain⟨x,u,y,xt,yt,xh,yh,w1,S1,c1,p⟩:=kx ml (z27 (z1y _) hg) hw al;have e1:=p.hts;subst e1;obtain⟨k1,k2⟩:=dn3 p.hh p.h1 p.h2 hz hc1;obtain⟨d1,g1,w2,S2,c2,r2,b1,b0,b2⟩:=zak f c p.wt.at_ p.my mr ht (zu3 hn) p.ay ar.old k1 k2 (Nat.lt_of_succ_lt_succ hf);have r2:=r2.after p.wt;obtain⟨k3,k4⟩:=dn1 p.hh p.h1 p.h2 hz b1;obtain⟨d2,g2,w3,S3,c3,r3,b5,b6,b7⟩:=xm r2.wt.at_ p.mx r2.mm p.ht k3 k4 (by rw[<-zw0];exact hn) p.ax.app r2.all;have r3:=r3.after r2.wt;exact⟨d2,g2,_,S3,jl rfl (zh (zp (jb (zg (a_c (e_v rfl) (a_c (e_v rfl) a_n)) bl))) (qp (qh (jb (e_2 (zg (a_c (e_v rfl) a_n) (qt ml S)) (zg (a_c (e_v rfl) a_n) (qt mr S)) (by rw[zs1,z1c hg]))) (zh (zo (zg (a_c (e_v rfl) (a_c (e_v rfl) a_n)) c1)) (zt (zg (a_c (e_v rfl) (a_c (qj (e_v rfl) e_k rfl) (a_c (qj (e_v rfl) e_k rfl) (a_c (zg (a_c (e_v rfl) (a_c (qj (e_v rfl) e_k rfl) (a_c (e_v rfl) (a_c (e_v rfl) a_n)))) c2) a_n)))) c3)))))),zw8 xt yt rt▸r3,dn2 p.hh p.h1 p.h2 hz b1 b5 b6,fun u v=>absurd ⟨u,v⟩ hb,zz1 p.few b2 b7⟩
       · have hz:lh+2<=rh:=by omega
         clear hc1;obtain⟨x,u,y,xt,yt,xh,yh,w1,S1,c1,p⟩:=kx mr (z1d (by decide) (z1u (Nat.le_add_left 2 lh) hz)) hw ar;have e1:=p.hts;subst e1;obtain⟨k1,k2⟩:=dn3 p.hh.sym p.h2 p.h1 hz hc2;obtain⟨d1,g1,w2,S2,c2,r2,b1,b0,b2⟩:=zak f c p.wt.at_ ml p.mx ht (zu1 hn) al.old p.ax k2 k1 (Nat.lt_of_succ_lt_succ hf);have r2:=r2.after p.wt;obtain⟨k3,k4⟩:=dn1 p.hh.sym p.h2 p.h1 hz b1.sym;obtain⟨d2,g2,w3,S3,c3,r3,b5,b6,b7⟩:=xm r2.wt.at_ r2.mm p.my p.ht k4 k3 (by rw[zw0];exact hn) r2.all p.ay.app;have r3:=r3.after r2.wt;exact⟨d2,g2,_,S3,jl rfl (zh (zp (jb (zg (a_c (e_v rfl) (a_c (e_v rfl) a_n)) bl))) (zh (zp (jb (e_2 (zg (a_c (e_v rfl) a_n) (qt ml S)) (zg (a_c (e_v rfl) a_n) (qt mr S)) (by rw[zs1,z1b hg])))) (zh (zo (zg (a_c (e_v rfl) (a_c (e_v rfl) a_n)) c1)) (zt (zg (a_c (e_v rfl) (a_c (zg (a_c (e_v rfl) (a_c (e_v rfl) (a_c (e_v rfl) (a_c (qj (e_v rfl) e_k rfl) a_n)))) c2) (a_c (qj (e_v rfl) e_k rfl) (a_c (qj (e_v rfl) e_k rfl) a_n)))) c3))))),(zw8 lt xt yt).symm▸r3,(dn2 p.hh.sym p.h2 p.h1 hz b1.sym b5.sym fun u v=>(b6 v u).sym).sym,fun u v=>absurd ⟨u,v⟩ hb,zz1 p.few b2 b7⟩
end Pg
namespace Pg
open PySem L2 F Mt
variable {k:Nat} [Kd k] {d l r t x y:D}{ts lt rt:List D}{h lh rh i:Nat}{n:Int}{S S0 S1:Sto}{ev e:Ev}{P Q:D->Prop}{a b new:List D}
theorem zzu(x y:Nat):zbp (.int x) (.int y)=some (.bl (decide (x<y))):=z2f (fun b=>some (D.bl b)) (z3d.mpr Int.ofNat_lt)
theorem zzw(x y:Nat):zc8 (.int x) (.int y)=some (.bl (decide (x<=y))):=z2f (fun b=>some (D.bl b)) (z3d.mpr Int.ofNat_le)
theorem zuz{x y:Nat}(h:x<y):zbp (.int x) (.int y)=some (.bl true):=by rw[zzu,z1c h]
theorem zrn{x y:Nat}(h:¬ x<y):zbp (.int x) (.int y)=some (.bl false):=by rw[zzu,z1b h]
theorem zs0{x y:Nat}(h:x<=y):zc8 (.int x) (.int y)=some (.bl true):=by rw[zzw,z1c h]
theorem zzx{x y:Nat}(h:¬ x<=y):zc8 (.int x) (.int y)=some (.bl false):=by rw[zzw,z1b h]
theorem zyp{x y:Nat}(h:y<x):zck (.int x) (.int y)=some (.bl true):=by rw[zs1,z1c h]
theorem zw4{x y:Nat}(h:¬ y<x):zck (.int x) (.int y)=some (.bl false):=by rw[zs1,z1b h]
theorem zyz{x y:Nat}(h:x=y):zdc (.int x) (.int y)=some (.bl true):=by rw[zds,h];simp
theorem zw7{x y:Nat}(h:x≠y):zdc (.int x) (.int y)=some (.bl false):=by rw[zds];simp;omega
theorem zfw{f g:E}{p m q:Nat}(hf:f ev S=some (.int p,S))(hg:g ev S=some (.int m,S))(hq:p=m+1+q):e2 y6 (e2 y6 f g) (eK (.int 1)) ev S=some (.int q,S) :=
 e_2 (e_2 hf hg (sub_int _ _)) e_k (by rw[sub_int,show(p:Int)-m-1=q by omega])
def HB(m h:Nat):Prop:=m<2^h/\2^h<=2*m+1
theorem zrv{m a b:Nat}(hm:0<m)(ha:HB (m/2) a)(hb:HB ((m-1)/2) b):a<=b+1/\b<=a+1/\∀h,Top a b h->HB m h:=by
 obtain⟨a1,a2⟩:=ha;obtain⟨b1,b2⟩:=hb;have h1:b<=a:=by
   rcases z3u a b with q | q
   · have:=Nat.pow_le_pow_right (n:=2) (by decide) (show a+1<=b from q);rw[Nat.pow_succ]at this;omega
   · exact q
 have h2:a<=b+1:=by
   rcases z3u (b+1) a with q | q
   · have:=Nat.pow_le_pow_right (n:=2) (by decide) (show b+1+1<=a from q);rw[Nat.pow_succ,Nat.pow_succ]at this;omega
   · exact q
 refine⟨h2,by omega,fun h ⟨_,_,e⟩=>?_⟩;have e:h=a+1:=by omega
 subst e;unfold HB;rw[Nat.pow_succ];cases a with
 |zero=>rw[Nat.pow_zero]at a1 a2 ⊢;omega
 |succ a=>rw[Nat.pow_succ]at a1 a2 ⊢;omega
theorem zwp(p a c:List D):atI (p++a++t::c) (((p.length+a.length:Nat)):Int)=some t:=ze1 (by rw[z1a (by simp),z03];simp)
theorem halves:∀{ts:List D},ts≠[]->∃a t b,ts=a++t::b/\a.length=ts.length/2/\b.length=(ts.length-1)/2:=fun {ts} h=>by
 have hl:0<ts.length:=z2d.mpr h;have hm:ts.length/2<ts.length:=by omega
 refine⟨ts.take (ts.length/2),ts[ts.length/2],ts.drop (ts.length/2+1),?_,?_,?_⟩
 · rw[<-z18 hm,List.take_append_drop]
 · rw[z1n];omega
 · rw[z2c];omega
theorem ze0:∀(f:Nat) {p ts q:List D}{n:Int}{S:Sto}{P:D->Prop},S[i]? = some (wd (x6 k) n)->(∀x∈ts,Thing k x)->ts.length<=2000->ts.length<2^f->∀{s e:Nat},s=p.length->e=p.length+ts.length ->
   ∃d h new S',zed (f+1) [.obj i,.lst (p++ts++q),.int s,.int e] S=some (d,S')/\Res k i S n P ts d h new S'/\HB ts.length h
 | f,p,ts,q,n,S,P,hw,ht,hl,hf,s,e,hs,he=>by
   by_cases h0:ts=[]
   · subst h0;refine⟨.non,0,[],S,jl rfl (qp (qh (jb (e_2 (e_v rfl) (e_v rfl) (zyz (by simp[hs,he])))) (zt e_k))),⟨.non,Wt.nil hw,.non⟩,by decide,by decide⟩
   · obtain⟨a,t,b,e0,la,lb⟩:=halves h0;have hlen:0<ts.length:=z2d.mpr h0;cases f with
     |zero=>rw[Nat.pow_zero]at hf;omega
     | succ f=>
       rw[Nat.pow_succ]at hf;obtain⟨d1,h1,w1,S1,c1,r1,b1⟩:=ze0 f (p:=p) (ts:=a) (q:=t::b++q) (P:=P) hw (fun x hx=>ht x (by rw[e0];exact z2n _ hx)) (by omega) (by omega) hs rfl;obtain⟨d2,h2,w2,S2,c2,r2,b2⟩:=ze0 f (p:=p++a++[t]) (ts:=b) (q:=q) (P:=Ac P n w1) r1.wt.at_ (fun x hx=>ht x (by rw[e0];exact z1f _ (z09 _ hx))) (by omega) (by omega) (s:=p.length+a.length+1) (e:=e) (by simp;omega) (by simp;omega);have r2:=r2.after r1.wt;rw[la]at b1;rw[lb]at b2;obtain⟨q1,q2,q3⟩:=zrv hlen b1 b2;have e1:p++a++(t::b++q)=p++ts++q:=by rw[e0];simp
       have e2:p++a++[t]++b++q=p++ts++q:=by rw[e0];simp
       have e3:p++ts++q=p++a++t::(b++q):=by rw[e0];simp
       rw[e1]at c1;rw[e2]at c2;obtain⟨d3,S3,h3,c3,r3,t3⟩:=x8 r2.wt.at_ r1.mm r2.mm (ht t (by rw[e0];simp)) q1 q2 (by omega) r1.all.app r2.all;have r3:=r3.after r2.wt;rw[<-e0]at r3;have em:yb (.int ((s:Int)+e)) (.int 2)=some (.int ((p.length+a.length:Nat):Int)):=by rw[zen (by decide),show((s:Int)+e)/2=((p.length+a.length:Nat):Int) by omega]
       exact⟨d3,h3,_,S3,jl rfl (zh (zp (jb (e_2 (e_v rfl) (e_v rfl) (zw7 (by omega))))) (zh (zo (e_2 (e_2 (e_v rfl) (e_v rfl) (add_int _ _)) e_k em)) (zh (zo (zg (a_c (e_v rfl) (a_c (e_v rfl) (a_c (e_v rfl) (a_c (e_v rfl) a_n)))) c1)) (zh (zo (zg (a_c (e_v rfl) (a_c (e_v rfl) (a_c (e_2 (e_v rfl) e_k (add_int _ _)) (a_c (e_v rfl) a_n)))) c2)) (zt (xa (e_v rfl) (qw r2.wt.at_) (j5 _ _) (a_c (e_v rfl) (a_c (qj (e_v rfl) (e_v rfl) (by rw[e3];exact zwp _ _ _)) (a_c (e_v rfl) a_n))) c3)))))),r3,q3 _ t3⟩
theorem zdp(hw:S[i]? = some (wd (x6 k) n))(ht:∀x∈ts,Thing k x)(hl:ts.length<=2000):∃d h new S',xf [.obj i,.lst ts] S=some (d,S')/\Res k i S n P ts d h new S':=by obtain⟨d,h,new,S1,c,r,_⟩:=ze0 (i:=i) (k:=k) 39 (p:=[]) (ts:=ts) (q:=[]) (P:=P) hw ht hl (z27 hl (by decide)) (s:=0) (e:=ts.length) rfl (by simp);rw[List.nil_append,z1z]at c;exact⟨d,h,new,S1,jl rfl (zh (ku (zg (a_c (e_a (a_c (e_v rfl) a_n) rfl) a_n) (zdy hl S))) (zt (zg (a_c (e_v rfl) (a_c (e_v rfl) (a_c e_k (a_c (e_a (a_c (e_v rfl) a_n) rfl) a_n)))) c))),r⟩
theorem zv0(a b:Bool):zdc (.bl a) (.bl b)=some (.bl (a==b)):=rfl
structure Seen (k:Nat) (us:List D) (h:Nat) (x t y:D) (c:Bool) (xt yt:List D) (xh yh:Nat):Prop where
 mx:Mk k x xt xh
 my:Mk k y yt yh
 ht:Thing k t
 hu:us=ord c xt++t::ord c yt
 hx:xh<h
 hy:yh<h
theorem zkf(m:Mk k d ts h)(hh:0<h)(b:Bool)(S:Sto):∃x t y c xt yt xh yh,zin [d,.bl b] S=some (.tup [x,t,y,.bl c],S)/\Seen k (ord b ts) h x t y c xt yt xh yh:=by
 cases m with
 |non=>omega
 | @node num a l t r lt rt lh rh ml mr ht h1 h2=>
   unfold mkD;by_cases e:a=b
   · subst e;exact⟨l,t,r,false,lt,rt,lh,rh,jl rfl (qp (qh (jb (e_2 (qj (e_v rfl) e_k rfl) (e_v rfl) (by rw[zv0];simp))) (zt (ym (a_c (qj (e_v rfl) e_k rfl) (a_c (qj (e_v rfl) e_k rfl) (a_c (qj (e_v rfl) e_k rfl) (a_c e_k a_n)))) (z04 rfl))))),ml,mr,ht,by cases a<;>simp[ord],by omega,by omega⟩
   · exact⟨r,t,l,true,rt,lt,rh,lh,jl rfl (zh (zp (jb (e_2 (qj (e_v rfl) e_k rfl) (e_v rfl) (by rw[zv0];simp[e])))) (zt (ym (a_c (qj (e_v rfl) e_k rfl) (a_c (qj (e_v rfl) e_k rfl) (a_c (qj (e_v rfl) e_k rfl) (a_c e_k a_n)))) (z04 rfl)))),mr,ml,ht,by cases a<;>cases b<;>simp_all [ord],by omega,by omega⟩
theorem zaj(m:Mk k d ts h)(hl:ts≠[]):0<h:=by
 cases m with
 |non=>exact absurd rfl hl
 |node _ _ _ _ _=>omega
theorem ne_of{p:Nat}(h:ts[p]? = some x):ts≠[]:=fun e=>by rw[e]at h;cases h
theorem zpd{c:Bool}(h:ord c ts≠[]):ts≠[]:=fun e=>h (by rw[e];cases c<;>rfl)
theorem yx:∀(f:Nat) {d:D}{ts:List D}{h p:Nat}{b:Bool},Mk k d ts h->h<=f->(ord b ts)[p]? = some x->∀S,xo f [d,.bl b,.int p] S=some (x,S)
 |0,d,ts,h,p,b,m,hf,hp,S=>absurd (zaj m (zpd (ne_of hp))) (z4h.mpr hf)
 | f+1,d,ts,h,p,b,m,hf,hp,S=>by
   obtain⟨u,t,y,c,xt,yt,xh,yh,c1,s⟩:=zkf m (zaj m (zpd (ne_of hp))) b S;have hu:=s.hu;rw[hu]at hp;have lx:=y4 c xt;have hx:=s.hx;have hy:=s.hy;have c2:=jf s.mx S;by_cases h1:p<xt.length
   · rw[z1k (by omega)]at hp;exact jl rfl (zh (zo (zg (a_c (e_v rfl) (a_c (e_v rfl) a_n)) c1)) (zh (zo (zg (a_c (qj (e_v rfl) e_k rfl) a_n) c2)) (qp (qh (jb (e_2 (e_v rfl) (e_v rfl) (zuz h1))) (zt (zg (a_c (qj (e_v rfl) e_k rfl) (a_c (qj (e_v rfl) e_k rfl) (a_c (e_v rfl) a_n))) (yx f s.mx (by omega) hp S)))))))
   · rw[z1a (by omega),lx]at hp;by_cases h2:xt.length<p
     · have e:p=xt.length+1+(p-xt.length-1):=by omega
       rw[show p-xt.length=(p-xt.length-1)+1 by omega,List.getElem?_cons_succ]at hp;exact jl rfl (zh (zo (zg (a_c (e_v rfl) (a_c (e_v rfl) a_n)) c1)) (zh (zo (zg (a_c (qj (e_v rfl) e_k rfl) a_n) c2)) (zh (zp (jb (e_2 (e_v rfl) (e_v rfl) (zrn h1)))) (qp (qh (jb (e_2 (e_v rfl) (e_v rfl) (zyp h2))) (zt (zg (a_c (qj (e_v rfl) e_k rfl) (a_c (qj (e_v rfl) e_k rfl) (a_c (zfw (e_v rfl) (e_v rfl) e) a_n))) (yx f s.my (by omega) hp S))))))))
     · rw[show p-xt.length=0 by omega,List.getElem?_cons_zero]at hp;cases hp;exact jl rfl (zh (zo (zg (a_c (e_v rfl) (a_c (e_v rfl) a_n)) c1)) (zh (zo (zg (a_c (qj (e_v rfl) e_k rfl) a_n) c2)) (zh (zp (jb (e_2 (e_v rfl) (e_v rfl) (zrn h1)))) (zh (zp (jb (e_2 (e_v rfl) (e_v rfl) (zw4 h2)))) (zt (qj (e_v rfl) e_k rfl))))))
end Pg
namespace Pg
open PySem L2 F Mt
variable {k:Nat} [Kd k] {d l r t x y:D}{ts lt rt:List D}{h lh rh i:Nat}{n:Int}{S S0 S1:Sto}{ev e:Ev}{P Q:D->Prop}{a b new:List D}
theorem zux(m:Mk k d [] h):d=.non/\h=0:=by
 generalize e:([]:List D)=ts at m;cases m with
 |non=>exact⟨rfl,rfl⟩
 |node _ _ _ _ _=>exact absurd (z2f List.length e) (by rw[y4];simp)
theorem h15(m:Mk k d ts h)(hl:ts.length<=2000):h<=15:=by
 have q:=zuy m;rcases z3u 15 h with z | z
 · have:low 16<=low h:=zd3 z;have e:low 16=2583:=by decide
   omega
 · exact z
theorem o1{xh yh h g:Nat}(p:Top xh yh h)(q1:xh<=yh+1)(q2:yh<=xh+1)(g1:g<=xh)(g2:xh<=g+1):(g<=yh+2/\yh<=g+2)/\∀z,Hi g yh z->(g<=yh+1->yh<=g+1->Top g yh z)->z<=h/\h<=z+1:=by
 obtain⟨p1,p2,p3⟩:=p;refine⟨⟨by omega,by omega⟩,fun z hz ht=>?_⟩;by_cases hb:g<=yh+1/\yh<=g+1
 · obtain⟨t1,t2,t3⟩:=ht hb.1 hb.2;omega
 · have:=hz.r;have:=hz.m yh (by omega) (z07 _);omega
theorem zn4{a b c:List D}{m xh yh h:Nat}(p:Top xh yh h)(h1:a.length<=2)(h2:b.length<=9*xh+m)(h3:c.length<=7):(a++b++c).length<=9*h+m:=by have:=p.l;simp only[z03];omega
theorem zpm{a b c:List D}{m xh yh h:Nat}(p:Top xh yh h)(h1:a.length<=2)(h2:b.length<=9*yh+m)(h3:c.length<=7):(a++b++c).length<=9*h+m:=zn4 p.sym h1 h2 h3
theorem zk5:¬ (0:Nat)<0:=by decide
theorem zrp{self:G}(S:Sto):jv self [.obj i,.non,y] S=some (y,S):=rfl
theorem zkz:∀(f:Nat) {d u:D}{rest:List D}{h:Nat}{n:Int}{S:Sto}{P:D->Prop},S[i]? = some (wd (x6 k) n)->Mk k d (u::rest) h->rest.length<2000->All P d->h<=f ->
   ∃d' h' new S',jp f [.obj i,d,.int (0:Nat)] S=some (d',S')/\Res k i S n P rest d' h' new S'/\(h'<=h/\h<=h'+1)/\new.length<=9*h
 |0,_,_,_,_,_,_,_,_,m,_,_,hf=>absurd (zaj m (by simp)) (z4h.mpr hf)
 | f+1,d,u,rest,h,n,S,P,hw,m,hl,al,hf=>by
   obtain⟨x,v,y,xt,yt,xh,yh,w1,S1,c1,p⟩:=kx m (zaj m (by simp)) hw al;have e1:=p.hts;have c2:=jf p.mx S1;cases xt with
   | nil=>
     obtain⟨rfl,rfl⟩:=zux p.mx;simp only[List.nil_append,z2l]at e1;obtain⟨rfl,rfl⟩:=e1;have e:h=yh+1:=by have:=p.hh.l;have:=p.hh.r;have:=p.hh.e;omega
     exact⟨y,yh,w1,S1,jl rfl (zh (zo (zg (a_c (e_v rfl) (a_c (e_v rfl) a_n)) c1)) (zh (zo (zg (a_c (qj (e_v rfl) e_k rfl) a_n) c2)) (zh (zp (jb (e_2 (e_v rfl) (e_v rfl) (zrn zk5)))) (zh (zp (jb (e_2 (e_v rfl) (e_v rfl) (zw4 zk5)))) (zt (zg (a_c (e_v rfl) (a_c (qj (e_v rfl) e_k rfl) (a_c (qj (e_v rfl) e_k rfl) a_n))) (zrp S1))))))),⟨p.my,p.wt,p.ay⟩,⟨by omega,by omega⟩,by have:=p.few;omega⟩
   | cons u' xt=>
     simp only[List.cons_append,z2l]at e1;obtain⟨rfl,rfl⟩:=e1;simp only[z03,List.length_cons]at hl;have hx:=p.hh.l;obtain⟨d1,g,w2,S2,c3,r2,⟨b1,b2⟩,b3⟩:=zkz f p.wt.at_ p.mx (by omega) p.ax (by omega);have r2:=r2.after p.wt;obtain⟨⟨k1,k2⟩,k3⟩:=o1 p.hh p.h1 p.h2 b1 b2;obtain⟨d2,g2,w3,S3,c4,r3,b5,b6,b7⟩:=xm r2.wt.at_ r2.mm p.my p.ht k1 k2 (by omega) r2.all p.ay.app;have r3:=r3.after r2.wt;exact⟨d2,g2,_,S3,jl rfl (zh (zo (zg (a_c (e_v rfl) (a_c (e_v rfl) a_n)) c1)) (zh (zo (zg (a_c (qj (e_v rfl) e_k rfl) a_n) c2)) (qp (qh (jb (e_2 (e_v rfl) (e_v rfl) (zuz (Nat.zero_lt_succ _)))) (zt (zg (a_c (e_v rfl) (a_c (zg (a_c (e_v rfl) (a_c (qj (e_v rfl) e_k rfl) (a_c (e_v rfl) a_n))) c3) (a_c (qj (e_v rfl) e_k rfl) (a_c (qj (e_v rfl) e_k rfl) a_n)))) c4)))))),r3,k3 _ b5 b6,zn4 (m:=0) p.hh p.few b3 b7⟩
theorem hi0(h:Nat):Hi 0 h h:=⟨z1y _,z07 _,fun z _ q=>Nat.le_succ_of_le q⟩
theorem ld1{lh rh g c:Nat}(g1:g<=rh)(g2:rh<=g+1)(c1:lh<=rh+c)(c2:rh<=lh+c):lh<=g+(c+1)/\g<=lh+(c+1):=by omega
theorem ld2{lh rh g z:Nat}(g1:g<=rh)(g2:rh<=g+1)(h:Hi lh g z)(w:lh<=g+1->g<=lh+1->Top lh g z)(c1:lh<=rh+1)(c2:rh<=lh+1):Hi lh rh z:=by
 refine⟨h.l,?_,fun y y1 y2=>h.m y y1 (by omega)⟩;by_cases hb:lh<=g+1/\g<=lh+1
 · obtain⟨t1,t2,t3⟩:=w hb.1 hb.2;omega
 · have:=h.l;omega
theorem zhs(m:Mk k d ts h):(d=.non/\ts=[]/\h=0)\/((∃xs,d=.tup xs)/\∃u rest,ts=u::rest):=by
 cases m with
 |non=>exact .inl ⟨rfl,rfl,rfl⟩
 | @node num a l t r lt rt lh rh _ _ _ _ _=>
   refine .inr ⟨⟨_,rfl⟩,?_⟩;cases e:ord a (lt++t::rt) with
   |nil=>exact absurd (z2f List.length e) (by rw[y4];simp)
   |cons u rest=>exact⟨u,rest,rfl⟩
theorem zik(xs:List D):zdb (.tup xs) .non=some (.bl false):=rfl
theorem zlg{f c:Nat}(hw:S[i]? = some (wd (x6 k) n))(ml:Mk k l lt lh)(mr:Mk k r rt rh)(hn:lt.length+rt.length<=2000)(al:All P l)(ar:All P r)(hf:rh<=f)(c1:lh<=rh+c)(c2:rh<=lh+c) :
   ∃d h new S',jv (jp f) [.obj i,l,r] S=some (d,S')/\Res k i S n P (lt++rt) d h new S'/\(lh<=rh+1->rh<=lh+1->Hi lh rh h)/\new.length<=9*rh+9*c+10:=by
 rcases zhs ml with⟨rfl,rfl,rfl⟩ | ⟨⟨xs,rfl⟩,u0,r0,rfl⟩
 · exact⟨r,rh,[],S,rfl,⟨mr,Wt.nil hw,ar.old⟩,fun _ _=>hi0 rh,z1y _⟩
 · rcases zhs mr with⟨rfl,rfl,rfl⟩ | ⟨⟨ys,rfl⟩,u,rest,rfl⟩
   · exact⟨_,lh,[],S,rfl,⟨by rw[z1z];exact ml,Wt.nil hw,al.old⟩,fun _ _=>(hi0 lh).sym,z1y _⟩
   · simp only[List.length_cons]at hn;have l15:=h15 ml (by simp only[List.length_cons];omega);have r15:=h15 mr (by simp only[List.length_cons];omega);obtain⟨d1,g,w1,S1,q1,r1,⟨b1,b2⟩,b3⟩:=zkz f hw mr (by omega) ar hf;have at0:=yx (x:=u) 40 (b:=false) (p:=0) mr (by omega) rfl S;have hj:∃c',c'<40/\c'<=c+1/\lh<=g+c'/\g<=lh+c':=by
       obtain⟨z1,z2⟩:=ld1 b1 b2 c1 c2;rcases z3u c 30 with q | q
       · exact⟨c+1,by omega,z07 _,z1,z2⟩
       · exact⟨16,by decide,by omega,by omega,by omega⟩
     obtain⟨c',j1,j2,j3,j4⟩:=hj;obtain⟨d2,g2,w2,S2,q2,r2,b5,b6,b7⟩:=zak 40 c' r1.wt.at_ ml r1.mm (mr.things u (z1j ..)) (by simp only[List.length_cons];omega) al.old r1.all j3 j4 j1;have r2:=r2.after r1.wt;exact⟨d2,g2,_,S2,jl rfl (zh (zp (jb (e_2 (e_v rfl) e_k (zik _)))) (zh (zp (jb (e_2 (e_v rfl) e_k (zik _)))) (zt (zg (a_c (e_v rfl) (a_c (e_v rfl) (a_c (zg (a_c (e_v rfl) (a_c e_k (a_c e_k a_n))) at0) (a_c (zg (a_c (e_v rfl) (a_c (e_v rfl) (a_c e_k a_n))) q1) a_n)))) q2)))),r2,ld2 b1 b2 b5 b6,by simp only[z03];omega⟩
theorem zsf{p:Nat}(h:p<a.length):(a++t::b).eraseIdx p=a.eraseIdx p++t::b:=List.eraseIdx_append_of_lt_length h _
theorem zse:(a++t::b).eraseIdx a.length=a++b:=by rw[z3n (z07 _),z3f];rfl
theorem zsd{q:Nat}:(a++t::b).eraseIdx (a.length+1+q)=a++t::b.eraseIdx q:=by rw[z3n (by omega),show a.length+1+q-a.length=q+1 by omega];rfl
theorem zae:∀(f:Nat) {d:D}{ts:List D}{h p:Nat}{n:Int}{S:Sto}{P:D->Prop},S[i]? = some (wd (x6 k) n)->Mk k d ts h->ts.length<=2000->p<ts.length->All P d->h<=f ->
   ∃d' h' new S',jp f [.obj i,d,.int p] S=some (d',S')/\Res k i S n P (ts.eraseIdx p) d' h' new S'/\(h'<=h/\h<=h'+1)/\new.length<=9*h+21
 |0,d,ts,h,p,n,S,P,hw,m,hl,hp,al,hf=>absurd (zaj m (z2d.mp (by omega))) (z4h.mpr hf)
 | f+1,d,ts,h,p,n,S,P,hw,m,hl,hp,al,hf=>by
   obtain⟨x,v,y,xt,yt,xh,yh,w1,S1,c1,q⟩:=kx m (zaj m (z2d.mp (by omega))) hw al;have e1:=q.hts;subst e1;have c2:=jf q.mx S1;have hx:=q.hh.l;have hy:=q.hh.r;simp only[z03,List.length_cons]at hl hp;by_cases h1:p<xt.length
   · obtain⟨d1,g,w2,S2,c3,r2,⟨b1,b2⟩,b3⟩:=zae f q.wt.at_ q.mx (by omega) h1 q.ax (by omega);have r2:=r2.after q.wt;obtain⟨⟨k1,k2⟩,k3⟩:=o1 q.hh q.h1 q.h2 b1 b2;obtain⟨d2,g2,w3,S3,c4,r3,b5,b6,b7⟩:=xm r2.wt.at_ r2.mm q.my q.ht k1 k2 (by rw[z2t h1];omega) r2.all q.ay.app;have r3:=r3.after r2.wt;exact⟨d2,g2,_,S3,jl rfl (zh (zo (zg (a_c (e_v rfl) (a_c (e_v rfl) a_n)) c1)) (zh (zo (zg (a_c (qj (e_v rfl) e_k rfl) a_n) c2)) (qp (qh (jb (e_2 (e_v rfl) (e_v rfl) (zuz h1))) (zt (zg (a_c (e_v rfl) (a_c (zg (a_c (e_v rfl) (a_c (qj (e_v rfl) e_k rfl) (a_c (e_v rfl) a_n))) c3) (a_c (qj (e_v rfl) e_k rfl) (a_c (qj (e_v rfl) e_k rfl) a_n)))) c4)))))),by rw[zsf h1];exact r3,k3 _ b5 b6,zn4 q.hh q.few b3 b7⟩
   · by_cases h2:xt.length<p
     · obtain⟨z,e⟩:∃z,p=xt.length+1+z:=⟨p-xt.length-1,by omega⟩
       have hz:z<yt.length:=by omega
       obtain⟨d1,g,w2,S2,c3,r2,⟨b1,b2⟩,b3⟩:=zae f (p:=z) q.wt.at_ q.my (by omega) hz q.ay (by omega);have r2:=r2.after q.wt;obtain⟨⟨k1,k2⟩,k3⟩:=o1 q.hh.sym q.h2 q.h1 b1 b2;obtain⟨d2,g2,w3,S3,c4,r3,b5,b6,b7⟩:=xm r2.wt.at_ q.mx r2.mm q.ht k2 k1 (by rw[z2t hz];omega) q.ax.app r2.all;have r3:=r3.after r2.wt;exact⟨d2,g2,_,S3,jl rfl (zh (zo (zg (a_c (e_v rfl) (a_c (e_v rfl) a_n)) c1)) (zh (zo (zg (a_c (qj (e_v rfl) e_k rfl) a_n) c2)) (zh (zp (jb (e_2 (e_v rfl) (e_v rfl) (zrn h1)))) (qp (qh (jb (e_2 (e_v rfl) (e_v rfl) (zyp h2))) (zt (zg (a_c (e_v rfl) (a_c (qj (e_v rfl) e_k rfl) (a_c (qj (e_v rfl) e_k rfl) (a_c (zg (a_c (e_v rfl) (a_c (qj (e_v rfl) e_k rfl) (a_c (zfw (e_v rfl) (e_v rfl) e) a_n))) c3) a_n)))) c4))))))),by rw[e,zsd];exact r3,k3 _ b5.sym fun u v=>(b6 v u).sym,zpm q.hh q.few b3 b7⟩
     · have e:p=xt.length:=by omega
       obtain⟨d1,g,w2,S2,c3,r2,b1,b2⟩:=zlg (f:=f) (c:=1) q.wt.at_ q.mx q.my (by omega) q.ax q.ay (by omega) q.h1 q.h2;have r2:=r2.after q.wt;have hi:=b1 q.h1 q.h2;have hm:=hi.m (h-1) (by omega) (by omega);have h1':=hi.l;have h2':=hi.r;have he:=q.hh.e;have hf:=q.few;exact⟨d1,g,_,S2,jl rfl (zh (zo (zg (a_c (e_v rfl) (a_c (e_v rfl) a_n)) c1)) (zh (zo (zg (a_c (qj (e_v rfl) e_k rfl) a_n) c2)) (zh (zp (jb (e_2 (e_v rfl) (e_v rfl) (zrn h1)))) (zh (zp (jb (e_2 (e_v rfl) (e_v rfl) (zw4 h2)))) (zt (zg (a_c (e_v rfl) (a_c (qj (e_v rfl) e_k rfl) (a_c (qj (e_v rfl) e_k rfl) a_n))) c3)))))),by rw[e,zse];exact r2,⟨by omega,by omega⟩,by simp only[z03];omega⟩
end Pg
namespace Pg
open PySem L2 F Mt
variable {k:Nat} [Kd k] {d l r t x y:D}{ts lt rt:List D}{h lh rh i:Nat}{n:Int}{S S0 S1:Sto}{ev e:Ev}{P Q:D->Prop}{a b new:List D}
structure Cut (k i:Nat) (S:Sto) (n:Int) (P:D->Prop) (lt rt:List D) (h:Nat) (x y:D) (xh yh:Nat) (new:List D) (S':Sto):Prop where
 wt:Wt k i S n new S'
 mx:Mk k x lt xh
 my:Mk k y rt yh
 hx:xh<=h
 hy:yh<=h
 ax:All (Ac P n new) x
 ay:All (Ac P n new) y
 few:new.length<=9*(xh+yh)+3*h
theorem ct1{xh yh bh h:Nat}(p:Top xh yh h)(h1:xh<=yh+1)(hb:bh<=xh)(h40:h<40):∃c,c<40/\bh<=yh+c/\yh<=bh+c/\∀z ah l1 l2 l3,Hi bh yh z->(bh<=yh+1->yh<=bh+1->Top bh yh z)->l1<=2->l2<=9*(ah+bh)+3*xh->l3<=9*c+1->l1+l2+l3<=9*(ah+z)+3*h:=by
 obtain⟨p1,p2,p3⟩:=p;by_cases q:bh<=yh
 · exact⟨yh-bh,by omega,by omega,by omega,fun z ah l1 l2 l3 hz _ _ _ _=>by have:=hz.r;omega⟩
 · exact⟨1,by decide,by omega,by omega,fun z ah l1 l2 l3 _ hz _ _ _=>by have:=(hz (by omega) (by omega)).l;omega⟩
theorem zvf{a b z h:Nat}(p:Hi a b z)(h1:a<h)(h2:b<h):z<=h:=by have:=p.m (h-1) (by omega) (by omega);omega
theorem zox{p:Nat}(h:p<=a.length):(a++t::b).take p=a.take p:=List.take_append_of_le_length h
theorem zpy{p:Nat}(h:p<=a.length):(a++t::b).drop p=a.drop p++t::b:=List.drop_append_of_le_length h
theorem zow{q:Nat}:(a++t::b).take (a.length+1+q)=a++t::b.take q:=by rw[List.take_append,List.take_of_length_le (by omega),show a.length+1+q-a.length=q+1 by omega,List.take_succ_cons]
theorem zpx{q:Nat}:(a++t::b).drop (a.length+1+q)=b.drop q:=by rw[List.drop_append,List.drop_of_length_le (by omega),show a.length+1+q-a.length=q+1 by omega,List.drop_succ_cons,List.nil_append]
theorem j9:∀(f:Nat) {d:D}{ts:List D}{h p:Nat}{n:Int}{S:Sto}{P:D->Prop},S[i]? = some (wd (x6 k) n)->Mk k d ts h->ts.length<=2000->p<=ts.length->All P d->h<f ->
   ∃x y xh yh new S',j6 f [.obj i,d,.int p] S=some (.tup [x,y],S')/\Cut k i S n P (ts.take p) (ts.drop p) h x y xh yh new S'
 |0,_,_,_,_,_,_,_,_,_,_,_,_,hf=>absurd hf (z33 _)
 | f+1,d,ts,h,p,n,S,P,hw,m,hl,hp,al,hf=>by
   by_cases h0:p=0
   · subst h0;exact⟨.non,d,0,h,[],S,jl rfl (qp (qh (jb (e_2 (e_v rfl) e_k (zyz rfl))) (zt (ym (a_c e_k (a_c (e_v rfl) a_n)) (z04 rfl))))),Wt.nil hw,.non,m,z1y _,z07 _,.non,al.old,z1y _⟩
   · have c0:=jf m S;have e0:zdc (.int p) (.int 0)=some (.bl false):=zw7 (y:=0) h0;by_cases h9:p=ts.length
     · subst h9;exact⟨d,.non,h,0,[],S,jl rfl (zh (zp (jb (e_2 (e_v rfl) e_k e0))) (qp (qh (jb (e_2 (e_v rfl) (zg (a_c (e_v rfl) a_n) c0) (zyz rfl))) (zt (ym (a_c (e_v rfl) (a_c e_k a_n)) (z04 rfl)))))),Wt.nil hw,by rw[List.take_length];exact m,by rw[List.drop_length];exact .non,z07 _,z1y _,al.old,.non,z1y _⟩
     · have h40:=h15 m hl;obtain⟨x,v,y,xt,yt,xh,yh,w1,S1,c1,q⟩:=kx m (zaj m (z2d.mp (by omega))) hw al;have e1:=q.hts;subst e1;have c2:=jf q.mx S1;have hx:=q.hh.l;have hy:=q.hh.r;have hl':=hl;have hp':=hp;simp only[z03,List.length_cons]at hl' hp';by_cases h1:p<=xt.length
       · obtain⟨a,b,ah,bh,w2,S2,c3,u⟩:=j9 f q.wt.at_ q.mx (by omega) h1 q.ax (by omega);have wt2:=q.wt.two u.wt;obtain⟨c,j1,j2,j3,j4⟩:=ct1 q.hh q.h1 u.hy (by omega);obtain⟨d2,g2,w3,S3,c4,r3,b5,b6,b7⟩:=zak 40 c wt2.at_ u.my q.my q.ht (by rw[z2c];omega) u.ay.two q.ay.app j2 j3 j1;have r3:=r3.after wt2;have fw:=j4 _ ah _ _ _ b5 b6 q.few u.few b7;refine⟨a,d2,ah,g2,_,S3,jl rfl (zh (zp (jb (e_2 (e_v rfl) e_k e0))) (zh (zp (jb (e_2 (e_v rfl) (zg (a_c (e_v rfl) a_n) c0) (zw7 h9)))) (zh (zo (zg (a_c (e_v rfl) (a_c (e_v rfl) a_n)) c1)) (zh (zo (zg (a_c (qj (e_v rfl) e_k rfl) a_n) c2)) (qp (qh (jb (e_2 (e_v rfl) (e_v rfl) (zs0 h1))) (zh (zo (zg (a_c (e_v rfl) (a_c (qj (e_v rfl) e_k rfl) (a_c (e_v rfl) a_n))) c3)) (zt (ym (a_c (qj (e_v rfl) e_k rfl) (a_c (zg (a_c (e_v rfl) (a_c (qj (e_v rfl) e_k rfl) (a_c (qj (e_v rfl) e_k rfl) (a_c (qj (e_v rfl) e_k rfl) a_n)))) c4) a_n)) (z04 rfl)))))))))),⟨r3.wt,by rw[zox h1];exact u.mx,by rw[zpy h1];exact r3.mm,z1u u.hx (z2y hx),zvf b5 (z27 u.hy hx) hy,u.ax.two.app,r3.all,by rw[z03,z03];exact fw⟩⟩
       · obtain⟨z,e⟩:∃z,p=xt.length+1+z:=⟨p-xt.length-1,by omega⟩
         obtain⟨a,b,ah,bh,w2,S2,c3,u⟩:=j9 f (p:=z) q.wt.at_ q.my (by omega) (by omega) q.ay (by omega);have wt2:=q.wt.two u.wt;obtain⟨c,j1,j2,j3,j4⟩:=ct1 q.hh.sym q.h2 u.hx (by omega);obtain⟨d2,g2,w3,S3,c4,r3,b5,b6,b7⟩:=zak 40 c wt2.at_ q.mx u.mx q.ht (by rw[z1n];omega) q.ax.app u.ax.two j3 j2 j1;have r3:=r3.after wt2;have fw:=j4 _ bh _ _ _ b5.sym (fun u v=>(b6 v u).sym) q.few (by have:=u.few;rwa [Nat.add_comm ah bh]at this) b7;rw[Nat.add_comm bh]at fw;refine⟨d2,b,g2,bh,_,S3,jl rfl (zh (zp (jb (e_2 (e_v rfl) e_k e0))) (zh (zp (jb (e_2 (e_v rfl) (zg (a_c (e_v rfl) a_n) c0) (zw7 h9)))) (zh (zo (zg (a_c (e_v rfl) (a_c (e_v rfl) a_n)) c1)) (zh (zo (zg (a_c (qj (e_v rfl) e_k rfl) a_n) c2)) (zh (zp (jb (e_2 (e_v rfl) (e_v rfl) (zzx h1)))) (zh (zo (zg (a_c (e_v rfl) (a_c (qj (e_v rfl) e_k rfl) (a_c (zfw (e_v rfl) (e_v rfl) e) a_n))) c3)) (zt (ym (a_c (zg (a_c (e_v rfl) (a_c (qj (e_v rfl) e_k rfl) (a_c (qj (e_v rfl) e_k rfl) (a_c (qj (e_v rfl) e_k rfl) a_n)))) c4) (a_c (qj (e_v rfl) e_k rfl) a_n)) (z04 rfl))))))))),⟨r3.wt,by rw[e,zow];exact r3.mm,by rw[e,zpx];exact u.my,zvf b5 hx (z27 u.hx hy),z1u u.hy (z2y hy),r3.all,u.ay.two.app,by rw[z03,z03];exact fw⟩⟩
theorem zwe{s e m:Nat}{f g w z:E}(hs:s<=e)(he:e<=m)(h0:f ev S=some (.int (0:Nat),S))(h1:g ev S=some (.int s,S))(h2:w ev S=some (.int e,S))(h3:z ev S=some (.int m,S)):zem zc8 zc8 zc8 f g w z ev S=some (.bl true,S):=by simp only[zem,h0,h1,h2,h3,Option.bind_some,zs0 (z1y s),zs0 hs,zs0 he,Option.map_some]
theorem zdj{s e:Nat}(m:Mk k d ts h)(hs:s<=e)(he:e<=ts.length)(S:Sto):xx [d,.int s,.int e] S=some (.non,S) :=
 zzc rfl (zp (zop (jb (zwe hs he e_k (e_v rfl) (e_v rfl) (zg (a_c (e_v rfl) a_n) (jf m S))))))
theorem zrb{s e:Nat}(hw:S[i]? = some (wd (x6 k) n))(m:Mk k d ts h)(hl:ts.length<=2000)(hs:s<=e)(he:e<=ts.length)(al:All P d):∃d' h' new S',zio [.obj i,d,.int s,.int e] S=some (d',S')/\Res k i S n P ((ts.take e).drop s) d' h' new S':=by have h1:=h15 m hl;obtain⟨x,y,xh,yh,w1,S1,c1,u⟩:=j9 40 hw m hl he al (by omega);have hx:=u.hx;obtain⟨x',y',xh',yh',w2,S2,c2,u'⟩:=j9 40 (p:=s) u.wt.at_ u.mx (by rw[z1n];omega) (by rw[z1n];omega) u.ax (by omega);exact⟨y',yh',_,S2,jl rfl (zh (ku (zg (a_c (e_v rfl) (a_c (e_v rfl) (a_c (e_v rfl) a_n))) (zdj m hs he S))) (zt (qj (zg (a_c (e_v rfl) (a_c (qj (zg (a_c (e_v rfl) (a_c (e_v rfl) (a_c (e_v rfl) a_n))) c1) e_k rfl) (a_c (e_v rfl) a_n))) c2) e_k rfl))),⟨u'.my,u.wt.two u'.wt,u'.ay.two⟩⟩
def turn(s e:Nat)(ts:List D):List D:=ts.take s++((ts.take e).drop s).reverse++ts.drop e
theorem zmz{s e:Nat}(hs:s<=e)(he:e<=ts.length):(turn s e ts).length=ts.length:=by simp only[turn,z03,z34,z2c,z1n];omega
theorem zlf(hw:S[i]? = some (wd (x6 k) n))(ml:Mk k l lt lh)(mr:Mk k r rt rh)(hn:lt.length+rt.length<=2000)(al:All P l)(ar:All P r):∃d h new S',xu [.obj i,l,r] S=some (d,S')/\Res k i S n P (lt++rt) d h new S'/\new.length<=9*rh+9*max lh rh+10:=by have h1:=h15 mr (by omega);obtain⟨d,h,new,S1,c,r,_,b⟩:=zlg (f:=40) (c:=max lh rh) hw ml mr hn al ar (by omega) (by omega) (by omega);exact⟨d,h,new,S1,c,r,b⟩
theorem zc9{s e:Nat}(hw:S[i]? = some (wd (x6 k) n))(m:Mk k d ts h)(hl:ts.length<=2000)(hs:s<=e)(he:e<=ts.length)(al:All P d):∃d' h' new S',y8 [.obj i,d,.int s,.int e] S=some (d',S')/\Res k i S n P (turn s e ts) d' h' new S':=by
 have h1:=h15 m hl;obtain⟨x,y,xh,yh,w1,S1,c1,u⟩:=j9 40 hw m hl he al (by omega);have hx:=u.hx;obtain⟨x',y',xh',yh',w2,S2,c2,u'⟩:=j9 40 (p:=s) u.wt.at_ u.mx (by rw[z1n];omega) (by rw[z1n];omega) u.ax (by omega);have wt2:=u.wt.two u'.wt;obtain⟨d3,w3,S3,c3,r3,_⟩:=zmy u'.my wt2.at_ u'.ay.two;have r3:=r3.after wt2;obtain⟨d4,h4,w4,S4,c4,r4,_⟩:=zlf r3.wt.at_ u'.mx r3.mm (by simp only[z34,z2c,z1n];omega) u'.ax.two.app r3.all;have r4:=r4.after r3.wt;obtain⟨d5,h5,w5,S5,c5,r5,_⟩:=zlf r4.wt.at_ r4.mm u.my (by simp only[z03,z34,z2c,z1n];omega) r4.all u.ay.app.app.app;have r5:=r5.after r4.wt;have es:(ts.take e).take s=ts.take s:=by rw[List.take_take,Nat.min_eq_left hs]
 rw[es]at r5;exact⟨d5,h5,_,S5,jl rfl (zh (ku (zg (a_c (e_v rfl) (a_c (e_v rfl) (a_c (e_v rfl) a_n))) (zdj m hs he S))) (zh (zo (zg (a_c (e_v rfl) (a_c (e_v rfl) (a_c (e_v rfl) a_n))) c1)) (zh (zo (zg (a_c (e_v rfl) (a_c (qj (e_v rfl) e_k rfl) (a_c (e_v rfl) a_n))) c2)) (zh (zo (zg (a_c (e_v rfl) (a_c (qj (e_v rfl) e_k rfl) (a_c (xa (e_v rfl) (qw wt2.at_) (zcd _ _) (a_c (qj (e_v rfl) e_k rfl) a_n) c3) a_n))) c4)) (zt (zg (a_c (e_v rfl) (a_c (e_v rfl) (a_c (qj (e_v rfl) e_k rfl) a_n))) c5)))))),r5⟩
end Pg
namespace Pg
open PySem L2 F Mt
variable {k:Nat} [Kd k] {d l r t x y:D}{ts lt rt:List D}{h lh rh i:Nat}{n:Int}{S S0 S1:Sto}{ev e:Ev}{P Q:D->Prop}{a b new:List D}
theorem p1{xh yh h g:Nat}(p:Top xh yh h)(q1:xh<=yh+1)(q2:yh<=xh+1)(g1:xh<=g)(g2:g<=xh+1):(g<=yh+2/\yh<=g+2)/\∀z,Hi g yh z->(g<=yh+1->yh<=g+1->Top g yh z)->h<=z/\z<=h+1:=by
 obtain⟨p1,p2,p3⟩:=p;refine⟨⟨by omega,by omega⟩,fun z hz ht=>?_⟩;by_cases hb:g<=yh+1/\yh<=g+1
 · obtain⟨t1,t2,t3⟩:=ht hb.1 hb.2;omega
 · have:=hz.l;have:=hz.m g (z07 _) (by omega);omega
theorem zxy{p:Nat}(h:p<=a.length):(a++t::b).take p++x::(a++t::b).drop p=(a.take p++x::a.drop p)++t::b:=by rw[zox h,zpy h];simp
theorem zxx{q:Nat}:(a++t::b).take (a.length+1+q)++x::(a++t::b).drop (a.length+1+q)=a++t::(b.take q++x::b.drop q):=by rw[zow,zpx];simp
theorem zkq(p:Nat):(ts.take p++x::ts.drop p).length=ts.length+1:=by simp only[z03,List.length_cons,z1n,z2c];omega
theorem zcg:∀(f:Nat) {d:D}{ts:List D}{h p:Nat}{n:Int}{S:Sto}{P:D->Prop},S[i]? = some (wd (x6 k) n)->Mk k d ts h->ts.length<2000->p<=ts.length->Thing k x->All P d->h<f ->
   ∃d' h' new S',zb8 f [.obj i,d,.int p,x] S=some (d',S')/\Res k i S n P (ts.take p++x::ts.drop p) d' h' new S'/\(h<=h'/\h'<=h+1)/\new.length<=9*h+1
 |0,_,_,_,_,_,_,_,_,_,_,_,_,_,hf=>absurd hf (z33 _)
 | f+1,d,ts,h,p,n,S,P,hw,m,hl,hp,ht,al,hf=>by
   rcases zhs m with⟨rfl,rfl,rfl⟩ | ⟨⟨xs,ed⟩,u0,r0,e0⟩
   · obtain⟨d1,S1,g1,c1,r1,t1⟩:=x8 hw (.non (k:=k)) (.non (k:=k)) ht (z37 0) (z37 0) (by decide) (All.non (P:=P)) .non;have e:g1=1:=by have:=t1.e;omega
     subst e;exact⟨d1,1,_,S1,jl rfl (qp (qh (jb (e_2 (e_v rfl) e_k rfl)) (zt (xa (e_v rfl) (qw hw) (j5 _ _) (a_c e_k (a_c (e_v rfl) (a_c e_k a_n))) c1)))),by simpa using r1,⟨z1y _,z07 _⟩,z07 _⟩
   · obtain⟨z,v,y,xt,yt,xh,yh,w1,S1,c1,q⟩:=kx m (zaj m (by rw[e0];simp)) hw al;have e1:=q.hts;subst e1;have c2:=jf q.mx S1;have hx:=q.hh.l;have hy:=q.hh.r;have hi:zdb d .non=some (.bl false):=by rw[ed];rfl
     simp only[z03,List.length_cons]at hl hp;by_cases h1:p<=xt.length
     · obtain⟨d1,g,w2,S2,c3,r2,⟨b1,b2⟩,b3⟩:=zcg f q.wt.at_ q.mx (by omega) h1 ht q.ax (by omega);have r2:=r2.after q.wt;obtain⟨⟨k1,k2⟩,k3⟩:=p1 q.hh q.h1 q.h2 b1 b2;obtain⟨d2,g2,w3,S3,c4,r3,b5,b6,b7⟩:=xm r2.wt.at_ r2.mm q.my q.ht k1 k2 (by rw[zkq];omega) r2.all q.ay.app;have r3:=r3.after r2.wt;exact⟨d2,g2,_,S3,jl rfl (zh (zp (jb (e_2 (e_v rfl) e_k hi))) (zh (zo (zg (a_c (e_v rfl) (a_c (e_v rfl) a_n)) c1)) (zh (zo (zg (a_c (qj (e_v rfl) e_k rfl) a_n) c2)) (qp (qh (jb (e_2 (e_v rfl) (e_v rfl) (zs0 h1))) (zt (zg (a_c (e_v rfl) (a_c (zg (a_c (e_v rfl) (a_c (qj (e_v rfl) e_k rfl) (a_c (e_v rfl) (a_c (e_v rfl) a_n)))) c3) (a_c (qj (e_v rfl) e_k rfl) (a_c (qj (e_v rfl) e_k rfl) a_n)))) c4))))))),by rw[zxy h1];exact r3,k3 _ b5 b6,zn4 q.hh q.few b3 b7⟩
     · obtain⟨z',e⟩:∃z,p=xt.length+1+z:=⟨p-xt.length-1,by omega⟩
       obtain⟨d1,g,w2,S2,c3,r2,⟨b1,b2⟩,b3⟩:=zcg f (p:=z') q.wt.at_ q.my (by omega) (by omega) ht q.ay (by omega);have r2:=r2.after q.wt;obtain⟨⟨k1,k2⟩,k3⟩:=p1 q.hh.sym q.h2 q.h1 b1 b2;obtain⟨d2,g2,w3,S3,c4,r3,b5,b6,b7⟩:=xm r2.wt.at_ q.mx r2.mm q.ht k2 k1 (by rw[zkq];omega) q.ax.app r2.all;have r3:=r3.after r2.wt;exact⟨d2,g2,_,S3,jl rfl (zh (zp (jb (e_2 (e_v rfl) e_k hi))) (zh (zo (zg (a_c (e_v rfl) (a_c (e_v rfl) a_n)) c1)) (zh (zo (zg (a_c (qj (e_v rfl) e_k rfl) a_n) c2)) (zh (zp (jb (e_2 (e_v rfl) (e_v rfl) (zzx h1)))) (zt (zg (a_c (e_v rfl) (a_c (qj (e_v rfl) e_k rfl) (a_c (qj (e_v rfl) e_k rfl) (a_c (zg (a_c (e_v rfl) (a_c (qj (e_v rfl) e_k rfl) (a_c (zfw (e_v rfl) (e_v rfl) e) (a_c (e_v rfl) a_n)))) c3) a_n)))) c4)))))),by rw[e,zxx];exact r3,k3 _ b5.sym fun u v=>(b6 v u).sym,zpm q.hh q.few b3 b7⟩
theorem Top.eq{a b h h':Nat}(p:Top a b h)(q:Top a b h'):h'=h:=by obtain⟨p1,p2,p3⟩:=p;obtain⟨q1,q2,q3⟩:=q;omega
theorem zxp{p:Nat}(h:p<a.length):(a++t::b).set p x=a.set p x++t::b:=List.set_append_left _ _ h
theorem zxo:(a++t::b).set a.length x=a++x::b:=by rw[z3a _ _ (z07 _),z3f];rfl
theorem zxn{q:Nat}:(a++t::b).set (a.length+1+q) x=a++t::b.set q x:=by rw[z3a _ _ (by omega),show a.length+1+q-a.length=q+1 by omega];rfl
theorem zvl{a b:List D}{xh yh h:Nat}(p:Top xh yh h)(h1:a.length<=2)(h2:b.length<=3*xh):(a++b++[t]).length<=3*h:=by have:=p.l;simp only[z03,List.length_cons,List.length_nil];omega
theorem zvk{a:List D}{h:Nat}(hh:0<h)(h1:a.length<=2):(a++[t]).length<=3*h:=by simp only[z03,List.length_cons,List.length_nil];omega
theorem zea:∀(f:Nat) {d:D}{ts:List D}{h p:Nat}{n:Int}{S:Sto}{P:D->Prop},S[i]? = some (wd (x6 k) n)->Mk k d ts h->ts.length<=2000->p<ts.length->Thing k x->All P d->h<=f ->
   ∃d' new S',zec f [.obj i,d,.int p,x] S=some (d',S')/\Res k i S n P (ts.set p x) d' h new S'/\new.length<=3*h
 |0,d,ts,h,p,n,S,P,hw,m,hl,hp,ht,al,hf=>absurd (zaj m (z2d.mp (by omega))) (z4h.mpr hf)
 | f+1,d,ts,h,p,n,S,P,hw,m,hl,hp,ht,al,hf=>by
   have h0:=zaj m (z2d.mp (by omega));obtain⟨z,v,y,xt,yt,xh,yh,w1,S1,c1,q⟩:=kx m h0 hw al;have e1:=q.hts;subst e1;have c2:=jf q.mx S1;have hx:=q.hh.l;have hy:=q.hh.r;simp only[z03,List.length_cons]at hl hp;by_cases h1:p<xt.length
   · obtain⟨d1,w2,S2,c3,r2,b3⟩:=zea f q.wt.at_ q.mx (by omega) h1 ht q.ax (by omega);have r2:=r2.after q.wt;obtain⟨d2,S3,g2,c4,r3,t3⟩:=x8 r2.wt.at_ r2.mm q.my q.ht q.h1 q.h2 (by rw[z2s];omega) r2.all q.ay.app;have r3:=r3.after r2.wt;have eg:=q.hh.eq t3;subst eg;exact⟨d2,_,S3,jl rfl (zh (zo (zg (a_c (e_v rfl) (a_c (e_v rfl) a_n)) c1)) (zh (zo (zg (a_c (qj (e_v rfl) e_k rfl) a_n) c2)) (qp (qh (jb (e_2 (e_v rfl) (e_v rfl) (zuz h1))) (zt (xa (e_v rfl) (qw q.wt.at_) (j5 _ _) (a_c (zg (a_c (e_v rfl) (a_c (qj (e_v rfl) e_k rfl) (a_c (e_v rfl) (a_c (e_v rfl) a_n)))) c3) (a_c (qj (e_v rfl) e_k rfl) (a_c (qj (e_v rfl) e_k rfl) a_n))) c4)))))),by rw[zxp h1];exact r3,zvl q.hh q.few b3⟩
   · by_cases h2:xt.length<p
     · obtain⟨z',e⟩:∃z,p=xt.length+1+z:=⟨p-xt.length-1,by omega⟩
       obtain⟨d1,w2,S2,c3,r2,b3⟩:=zea f (p:=z') q.wt.at_ q.my (by omega) (by omega) ht q.ay (by omega);have r2:=r2.after q.wt;obtain⟨d2,S3,g2,c4,r3,t3⟩:=x8 r2.wt.at_ q.mx r2.mm q.ht q.h1 q.h2 (by rw[z2s];omega) q.ax.app r2.all;have r3:=r3.after r2.wt;have eg:=q.hh.eq t3;subst eg;exact⟨d2,_,S3,jl rfl (zh (zo (zg (a_c (e_v rfl) (a_c (e_v rfl) a_n)) c1)) (zh (zo (zg (a_c (qj (e_v rfl) e_k rfl) a_n) c2)) (zh (zp (jb (e_2 (e_v rfl) (e_v rfl) (zrn h1)))) (qp (qh (jb (e_2 (e_v rfl) (e_v rfl) (zyp h2))) (zt (xa (e_v rfl) (qw q.wt.at_) (j5 _ _) (a_c (qj (e_v rfl) e_k rfl) (a_c (qj (e_v rfl) e_k rfl) (a_c (zg (a_c (e_v rfl) (a_c (qj (e_v rfl) e_k rfl) (a_c (zfw (e_v rfl) (e_v rfl) e) (a_c (e_v rfl) a_n)))) c3) a_n))) c4))))))),by rw[e,zxn];exact r3,zvl q.hh.sym q.few b3⟩
     · have e:p=xt.length:=by omega
       obtain⟨d2,S3,g2,c4,r3,t3⟩:=x8 q.wt.at_ q.mx q.my ht q.h1 q.h2 (by omega) q.ax q.ay;have r3:=r3.after q.wt;have eg:=q.hh.eq t3;subst eg;exact⟨d2,_,S3,jl rfl (zh (zo (zg (a_c (e_v rfl) (a_c (e_v rfl) a_n)) c1)) (zh (zo (zg (a_c (qj (e_v rfl) e_k rfl) a_n) c2)) (zh (zp (jb (e_2 (e_v rfl) (e_v rfl) (zrn h1)))) (zh (zp (jb (e_2 (e_v rfl) (e_v rfl) (zw4 h2)))) (zt (xa (e_v rfl) (qw q.wt.at_) (j5 _ _) (a_c (qj (e_v rfl) e_k rfl) (a_c (e_v rfl) (a_c (qj (e_v rfl) e_k rfl) a_n))) c4)))))),by rw[e,zxo];exact r3,zvk h0 q.few⟩
theorem zwf{p m:Nat}{f g w:E}(hp:p<m)(h0:f ev S=some (.int (0:Nat),S))(h1:g ev S=some (.int p,S))(h2:w ev S=some (.int m,S)):zfy zc8 zbp f g w ev S=some (.bl true,S):=by simp only[zfy,h0,h1,h2,Option.bind_some,zs0 (z1y p),zuz hp,Option.map_some]
theorem zbj{p m:Nat}(hp:p<m)(S:Sto):jq [.int p,.int m] S=some (.non,S):=zzc rfl (zp (zop (jb (zwf hp e_k (e_v rfl) (e_v rfl)))))
theorem zzd{p:Nat}(m:Mk k d ts h)(hl:ts.length<=2000)(hp:ts[p]? = some x)(S:Sto):zyr [d,.int p] S=some (x,S) :=
 jl rfl (zh (ku (zg (a_c (e_v rfl) (a_c (zg (a_c (e_v rfl) a_n) (jf m S)) a_n)) (zbj (z06.mp hp).1 S))) (zt (zg (a_c (e_v rfl) (a_c e_k (a_c (e_v rfl) a_n))) (yx 40 (b:=false) m (z1u (h15 m hl) (by decide)) hp S))))
theorem zzf(x:Nat):qm (.int x) (.int 1)=some (.int (x+1:Nat)):=rfl
theorem zo4{p:Nat}(hw:S[i]? = some (wd (x6 k) n))(m:Mk k d ts h)(hl:ts.length<2000)(hp:p<=ts.length)(ht:Thing k x)(al:All P d) :
   ∃d' h' new S',zg1 [.obj i,d,.int p,x] S=some (d',S')/\Res k i S n P (ts.take p++x::ts.drop p) d' h' new S'/\new.length<=9*h+1:=by
 have h1:=h15 m (z2y hl);obtain⟨d',h',new,S1,c,r,_,b⟩:=zcg 40 hw m hl hp ht al (by omega);exact⟨d',h',new,S1,jl rfl (zh (ku (zg (a_c (e_v rfl) (a_c (e_2 (zg (a_c (e_v rfl) a_n) (jf m S)) e_k (zzf _)) a_n)) (zbj (Nat.lt_succ_of_le hp) S))) (zh (ku (zg (a_c (e_2 (zg (a_c (e_v rfl) a_n) (jf m S)) e_k (zzf _)) a_n) (zdy hl S))) (zt (zg (a_c (e_v rfl) (a_c (e_v rfl) (a_c (e_v rfl) (a_c (e_v rfl) a_n)))) c)))),r,b⟩
theorem zpc{p:Nat}(hw:S[i]? = some (wd (x6 k) n))(m:Mk k d ts h)(hl:ts.length<=2000)(hp:p<ts.length)(al:All P d) :
   ∃d' h' new S',zlv [.obj i,d,.int p] S=some (d',S')/\Res k i S n P (ts.eraseIdx p) d' h' new S'/\new.length<=9*h+21:=by
 have h1:=h15 m hl;obtain⟨d',h',new,S1,c,r,_,b⟩:=zae 40 hw m hl hp al (by omega);exact⟨d',h',new,S1,jl rfl (zh (ku (zg (a_c (e_v rfl) (a_c (zg (a_c (e_v rfl) a_n) (jf m S)) a_n)) (zbj hp S))) (zt (zg (a_c (e_v rfl) (a_c (e_v rfl) (a_c (e_v rfl) a_n))) c))),r,b⟩
theorem zdi{p:Nat}(hw:S[i]? = some (wd (x6 k) n))(m:Mk k d ts h)(hl:ts.length<=2000)(hp:p<ts.length)(ht:Thing k x)(al:All P d) :
   ∃d' new S',zal [.obj i,d,.int p,x] S=some (d',S')/\Res k i S n P (ts.set p x) d' h new S'/\new.length<=3*h:=by
 have h1:=h15 m hl;obtain⟨d',new,S1,c,r,b⟩:=zea 40 hw m hl hp ht al (by omega);exact⟨d',new,S1,jl rfl (zh (ku (zg (a_c (e_v rfl) (a_c (zg (a_c (e_v rfl) a_n) (jf m S)) a_n)) (zbj hp S))) (zt (zg (a_c (e_v rfl) (a_c (e_v rfl) (a_c (e_v rfl) (a_c (e_v rfl) a_n)))) c))),r,b⟩
theorem zwb{p:Nat}(hw:S[i]? = some (wd (x6 k) n))(m:Mk k d ts h)(hl:ts.length<=2000)(hp:p<=ts.length)(al:All P d) :
   ∃x y xh yh new S',zr1 [.obj i,d,.int p] S=some (.tup [x,y],S')/\Cut k i S n P (ts.take p) (ts.drop p) h x y xh yh new S':=by
 have h1:=h15 m hl;obtain⟨x,y,xh,yh,new,S1,c,r⟩:=j9 40 hw m hl hp al (by omega);exact⟨x,y,xh,yh,new,S1,jl rfl (zh (ku (zg (a_c (e_v rfl) (a_c (e_2 (zg (a_c (e_v rfl) a_n) (jf m S)) e_k (zzf _)) a_n)) (zbj (Nat.lt_succ_of_le hp) S))) (zt (zg (a_c (e_v rfl) (a_c (e_v rfl) (a_c (e_v rfl) a_n))) c))),r⟩
theorem zjd(hw:S[i]? = some (wd (x6 k) n))(ml:Mk k l lt lh)(mr:Mk k r rt rh)(hn:lt.length+rt.length<=2000)(al:All P l)(ar:All P r):∃d h new S',zlw [.obj i,l,r] S=some (d,S')/\Res k i S n P (lt++rt) d h new S'/\new.length<=9*rh+9*max lh rh+10:=by obtain⟨d,h,new,S1,c,r,b⟩:=zlf hw ml mr hn al ar;exact⟨d,h,new,S1,jl rfl (zh (ku (zg (a_c (e_2 (zg (a_c (e_v rfl) a_n) (jf ml S)) (zg (a_c (e_v rfl) a_n) (jf mr S)) (add_int _ _)) a_n) (zdy hn S))) (zt (zg (a_c (e_v rfl) (a_c (e_v rfl) (a_c (e_v rfl) a_n))) c))),r,b⟩
theorem zj9{q j:Nat}{v:E}{us:List D}(he:ev[q]? = some (some (.obj j)))(hj:S[j]? = some (.lst us))(hv:v ev S=some (x,S))(hl:us.length<16777216):jz (eV q) v ev S=some (.nx ev,S.set j (.lst (us++[x]))):=by have hz:sizeLine=16777216:=z14;simp only[jz,e_v he,Option.bind_some,hj,hv,hz,z1t hl]
def SB(S:Sto):Prop:=∀m∈S,zgc S.length m=true
theorem zgb{m:Nat}(hx:Thing k x):bnd m x=true:=by
 cases zhx hx with
 |non=>rfl
 |int i=>rfl
 |str z=>rfl
 |pair a b=>rfl
end Pg
namespace Pg
open PySem L2 F Mt
variable {k:Nat} [Kd k] {d l r t x y:D}{ts lt rt:List D}{h lh rh i:Nat}{n:Int}{S S0 S1:Sto}{ev e:Ev}{P Q:D->Prop}{a b new:List D}
theorem zo2(h:∀z∈lt,Thing k z):∀z∈lt.reverse,Thing k z:=fun z hz=>h z (z3c.mp hz)
theorem zd2(m:Int)(c:Nat):∃e:Nat,e<=c/\q9 (.int m) (.int ((c:Int)+1))=some (.int e):=by have x0:=z19 m (show(c:Int)+1≠0 by omega);have x1:=z11 m (show(0:Int)<(c:Int)+1 by omega);exact⟨(m%((c:Int)+1)).toNat,by omega,by rw[za3 (by omega),show(((m%((c:Int)+1)).toNat:Nat):Int)=m%((c:Int)+1) by omega]⟩
theorem zba(m:Int){c:Nat}(hc:0<c):∃e:Nat,e<c/\q9 (.int m) (.int (c:Int))=some (.int e):=by have x0:=z19 m (show(c:Int)≠0 by omega);have x1:=z11 m (show(0:Int)<(c:Int) by omega);exact⟨(m%(c:Int)).toNat,by omega,by rw[za3 (by omega),show(((m%(c:Int)).toNat:Nat):Int)=m%(c:Int) by omega]⟩
theorem rng{c:Nat}(h:c<=10000):∀x∈qo 0 c,∃i:Int,x=.int i/\0<=i/\i<10000:=fun x hx=>by unfold qo at hx;obtain⟨j,hj,rfl⟩:=z1x.mp hx;have:=z23.mp hj;exact⟨_,rfl,by omega,by omega⟩
theorem zgp(c:Nat):(qo 0 c).length=c:=by simp[qo]
end Pg
namespace Pg
open PySem L2 F Mt
variable {k:Nat} [Kd k] {d l r t x y:D}{ts us lt rt:List D}{h lh rh i:Nat}{n:Int}{S S0 S1:Sto}{ev e:Ev}{P Q:D->Prop}
theorem zdk{q j:Nat}{v:E}{us vs:List D}(he:ev[q]? = some (some (.obj j)))(hj:S[j]? = some (.lst vs))(hv:v ev S=some (x,S1))(h1:S1[j]? = some (.lst us))(hl:us.length<16777216):jz (eV q) v ev S=some (.nx ev,S1.set j (.lst (us++[x]))):=by have hz:sizeLine=16777216:=z14;simp only[jz,e_v he,Option.bind_some,hj,hv,h1,hz,z1t hl]
theorem zj8{i:Nat}{f:E}{b:C}{n:Int}{o:Out}{S2:Sto}(h:f ev S=some (.int n,S1))(h0:0<=n)(h1:n<1000000)(q:yc i b (qo 0 n.toNat) ev S1=some (o,S2)):zgo i f b ev S=some (o,S2):=by
 have cnd:-(2^62)<=n/\n<2^62:=by omega
 simp only[zgo,h,Option.bind_some,z1t cnd,q]
theorem zgm{i:Nat}{f:E}{b:C}{ds:List D}{o:Out}{S2:Sto}(h:f ev S=some (.lst ds,S1))(q:yc i b ds ev S1=some (o,S2)):zfb i f b ev S=some (o,S2):=by simp only[zfb,h,Option.bind_some,q]
theorem yi{i:Nat}{b:C}{d:D}{ds:List D}{e1:Ev}{o:Out}{S2:Sto}(h:b (ev.set i (some d)) S=some (.nx e1,S1))(q:yc i b ds e1 S1=some (o,S2)):yc i b (d::ds) ev S=some (o,S2):=by unfold yc;rw[h];exact q
end Pg
namespace Pg
open PySem L2 F Mt
variable {k:Nat} [Kd k] {d l r t x y:D}{ts lt rt:List D}{h lh rh i:Nat}{n:Int}{S S0 S1:Sto}{ev e:Ev}{P Q:D->Prop}{a b new:List D}
mutual
theorem zp2{m:Nat}:∀{d:D},bnd 0 d=true->bnd m d=true
 | .non,h=>h
 | .bl _,h=>h
 | .int _,h=>h
 | .str _,h=>h
 | .fn _,h=>h
 | .ty _,h=>h
 | .tup ds,h=>bndL_up (ds:=ds) h
 | .lst ds,h=>bndL_up (ds:=ds) h
 | .obj i,h=>by unfold bnd at h;simp at h
 | .lam _,h=>h
 | .clo _ vs,h=>by unfold bnd at h ⊢;exact bndL_up (ds:=vs) h
theorem bndL_up{m:Nat}:∀{ds:List D},bndL 0 ds=true->bndL m ds=true
 | [],_=>rfl
 | d::ds,h=>by unfold bndL at h ⊢;rw[z15]at h ⊢;exact⟨zp2 h.1,bndL_up h.2⟩
end
theorem zbv{m:Nat}:∀{ds:List D},(∀x∈ds,bnd m x=true)->bndL m ds=true
 | [],_=>rfl
 | d::ds,hb=>by unfold bndL;rw[hb d (z1j ..),zbv fun x hx=>hb x (z09 _ hx)];rfl
theorem zmm(hx:∀x∈ts,Thing k x):bnd 0 (zaf k ts)=true:=by
 by_cases hk:k=0
 · subst hk;rw[zcf];rfl
 · cases ts with
   |nil=>rfl
   | cons t ts=>
     have q:=zqj (ze9 hk (by simp) hx);generalize zaf k (t::ts)=z at q ⊢;cases q with
     |non=>rfl
     |int i=>rfl
     |str z=>rfl
     |pair a b=>rfl
theorem Mk.bnd0(m:Mk k d ts h):bnd 0 d=true:=by
 induction m with
 |non=>rfl
 | @node num a l t r lt rt lh rh ml mr ht h1 h2 i1 i2=>
   have hth:∀x∈ord a (lt++t::rt),Thing k x:=(Mk.node (num:=num) (a:=a) ml mr ht h1 h2).things;unfold mkD;unfold bnd;simp only[bndL,i1,i2,zgb ht,zmm hth,zmm (zo2 hth),z38];simp[bnd]
inductive Nt (P:D->Prop):D->Nat->Prop where
 |non:Nt P .non 0
 |node {m:Int}{a:Bool}{l t r:D}{sz ht:Int}{to ba:D}{x y:Nat}:P (mkD m a l t r sz ht to ba)->bnd 0 (mkD m a l t r sz ht to ba)=true->Nt P l x->Nt P r y->Nt P (mkD m a l t r sz ht to ba) (x+y+1)
theorem Mk.nt(m:Mk k d ts h)(al:All P d):Nt P d ts.length:=by
 induction m with
 |non=>exact .non
 | @node num a l t r lt rt lh rh ml mr ht h1 h2 i1 i2=>
   have hp:P (mkD num a l t r (lt.length+1+rt.length:Nat) (max lh rh+1:Nat) (zaf k (ord a (lt++t::rt))) (zaf k (ord a (lt++t::rt)).reverse)):=by
     generalize hd:mkD num a l t r (lt.length+1+rt.length:Nat) (max lh rh+1:Nat) (zaf k (ord a (lt++t::rt))) (zaf k (ord a (lt++t::rt)).reverse)=d at al;cases al with
     |non=>cases hd
     |node p _ _=>exact p
   have:=Nt.node hp (Mk.bnd0 (.node (num:=num) (a:=a) ml mr ht h1 h2)) (i1 al.inv.1) (i2 al.inv.2);rw[y4,show(lt++t::rt).length=lt.length+rt.length+1 by simp;omega];exact this
def nn:D->Bool
 | .non=>false
 |_=>true
def Ch(v c:D):Prop:=∃(m:Int) (a:Bool) (l t r:D) (sz ht:Int) (to ba:D),v=mkD m a l t r sz ht to ba/\(c=l\/c=r)
structure Wk (P:D->Prop) (rs:List D) (kvs:List (Int×D)) (td:List D):Prop where
 ent:∀p∈kvs,P p.2/\p.1=num p.2/\bnd 0 p.2=true
 nd:(kvs.map (·.1)).Nodup
 cl:∀p∈kvs,∀c,Ch p.2 c->c=.non\/c∈td\/zay kvs (num c)=true
 rt:∀x∈rs,x=.non\/x∈td\/zay kvs (num x)=true
theorem zrx{kvs:List (Int×D)}{q q':Int}{v:D}(h:zay kvs q=true):zay (kvs++[(q',v)]) q=true:=by unfold zay at h ⊢;rw[List.any_append,h,Bool.true_or]
theorem zrw{kvs:List (Int×D)}{q:Int}{v:D}:zay (kvs++[(q,v)]) q=true:=by unfold zay;rw[List.any_append];simp
theorem zlt{kvs:List (Int×D)}{q:Int}(h:zay kvs q=true):∃p∈kvs,p.1=q:=by unfold zay at h;obtain⟨p,hp,e⟩:=List.any_eq_true.mp h;exact⟨p,hp,z2x e⟩
theorem Wk.skip{rs:List D}{kvs:List (Int×D)}{td:List D}(w:Wk P rs kvs (td++[x]))(h:zay kvs (num x)=true):Wk P rs kvs td:=by
 have f:∀c:D,c∈td++[x]->c∈td\/zay kvs (num c)=true:=fun c hc=>(z1p.mp hc).imp id fun z=>by rw[z05.mp z];exact h
 exact⟨w.ent,w.nd,fun p hp c hc=>(w.cl p hp c hc).imp id fun z=>z.elim (f c) .inr,fun y hy=>(w.rt y hy).imp id fun z=>z.elim (f y) .inr⟩
theorem zrm{m m':Int}{a a':Bool}{l l' t t' r r':D}{sz sz' ht ht':Int}{to to' ba ba':D}(e:mkD m a l t r sz ht to ba=mkD m' a' l' t' r' sz' ht' to' ba'):l=l'/\r=r':=by unfold mkD at e;injection e with e;simp only[z2l,and_true]at e;exact⟨e.2.2.1,e.2.2.2.2.1⟩
theorem Wk.take{rs:List D}{kvs:List (Int×D)}{td:List D}{m:Int}{a:Bool}{l t r:D}{sz ht:Int}{to ba:D}(w:Wk P rs kvs (td++[mkD m a l t r sz ht to ba]))(hp:P (mkD m a l t r sz ht to ba))(hb:bnd 0 (mkD m a l t r sz ht to ba)=true)
   (h:zay kvs m=false) (hl:l=.non\/nn l=true) (hr:r=.non\/nn r=true):Wk P rs (kvs++[(m,mkD m a l t r sz ht to ba)]) (td++[l,r].filter nn):=by
 have hn:num (mkD m a l t r sz ht to ba)=m:=rfl;have f:∀c:D,c∈td++[mkD m a l t r sz ht to ba]\/zay kvs (num c)=true->c∈td++[l,r].filter nn\/zay (kvs++[(m,mkD m a l t r sz ht to ba)]) (num c)=true:=fun c hc=>by
   rcases hc with hc | hc
   · rcases z1p.mp hc with z | z
     · exact .inl (z2n _ z)
     · rw[z05.mp z];exact .inr zrw
   · exact .inr (zrx hc)
 refine⟨fun p hp'=>?_,?_,fun p hp' c hc=>?_,fun y hy=>(w.rt y hy).imp id (f y)⟩
 · rcases z1p.mp hp' with z | z
   · exact w.ent p z
   · rw[z05.mp z];exact⟨hp,rfl,hb⟩
 · rw[z2h,z2q];refine⟨w.nd,by simp,fun u hu v hv=>?_⟩;have hv:v=m:=by simpa using hv
   subst hv;intro e;subst e;obtain⟨p,hp1,rfl⟩:=z1x.mp hu;have:zay kvs p.1=true:=by unfold zay;exact List.any_eq_true.mpr ⟨p,hp1,z1c rfl⟩
   rw[this]at h;cases h
 · rcases z1p.mp hp' with z | z
   · exact(w.cl p z c hc).imp id (f c)
   · rw[z05.mp z]at hc;obtain⟨m',a',l',t',r',sz',ht',to',ba',e,hc⟩:=hc;obtain⟨rfl,rfl⟩:=zrm e;rcases hc with rfl | rfl
     · rcases hl with hl | hl
       · exact .inl hl
       · exact .inr (.inl (z1f _ (z3h.mpr ⟨by simp,hl⟩)))
     · rcases hr with hr | hr
       · exact .inl hr
       · exact .inr (.inl (z1f _ (z3h.mpr ⟨by simp,hr⟩)))
theorem Wk.done{rs:List D}{kvs:List (Int×D)}(w:Wk P rs kvs [])(hU:∀v v',P v->P v'->num v=num v'->v=v'){c:Nat}(m:Nt P d c)(h:d=.non\/zay kvs (num d)=true):All (fun v=>zay kvs (num v)=true) d:=by
 induction m with
 |non=>exact .non
 | @node m a l t r sz ht to ba x y hp hb hl hr il ir=>
   rcases h with h | h
   · cases h
   · obtain⟨p,hp1,e⟩:=zlt h;obtain⟨p2,p3,_⟩:=w.ent p hp1;have ev:=hU _ _ p2 hp (by rw[<-p3,e]);have c1:∀c,c=l\/c=r->c=.non\/zay kvs (num c)=true:=fun c hc=>(w.cl p hp1 c ⟨m,a,l,t,r,sz,ht,to,ba,ev,hc⟩).imp id fun z=>z.elim (fun q=>by cases q) id;exact .node h (il (c1 l (.inl rfl))) (ir (c1 r (.inr rfl)))
def JB(J:Sto):Prop:=∀m∈J,zgc 0 m=true
theorem zze(B J:Sto)(m:MO)(u:Nat):(B++m::J)[B.length+1+u]? = J[u]?:=by rw[z1a (by omega),show B.length+1+u-B.length=u+1 by omega];rfl
theorem zp4(B J:Sto)(m:MO):(B++m::J)[B.length]? = some m:=by rw[z1a (z07 _),z3f];rfl
theorem zxq(B J:Sto)(m m':MO)(u:Nat):(B++m::J).set (B.length+1+u) m'=B++m::J.set u m':=by rw[z3a _ _ (by omega),show B.length+1+u-B.length=u+1 by omega];rfl
theorem zfa(B J:Sto)(m m':MO):(B++m::J).set B.length m'=B++m'::J:=by rw[z3a _ _ (z07 _),z3f];rfl
theorem z0p{w:Nat}{td:List D}(h2:ev[2]? = some (some (.obj w)))(hs:S[w]? = some (.lst td))(hb:bndL 0 td=true):bE (e2s zdz (eV 2) (ya aN)) ev S=some (!td.isEmpty,S):=by
 refine jb (qj (e_v h2) (xz a_n (z1y _)) ?_);simp only[zdz,hs,hb,show bndL 0 []=true from rfl,and_self,z4e,zno];cases td with
 |nil=>rfl
 |cons x td=>rfl
theorem zx0{w:Nat}{td:List D}(h2:ev[2]? = some (some (.obj w)))(hs:S[w]? = some (.lst (td++[x]))):zs3 (eV 2) ev S=some (x,S.set w (.lst td)):=by simp only[zs3,e_v h2,Option.bind_some,hs];rw[z03,z1a (by simp)];simp
theorem zrh{w:Nat}{q:Int}{kvs:List (Int×D)}{f:E}(h1:ev[1]? = some (some (.obj w)))(hs:S[w]? = some (.dct kvs))(hf:f ev S=some (.int q,S)):bE (e2s ka f (eV 1)) ev S=some (!zay kvs q,S) :=
 jb (qj hf (e_v h1) (by simp only[ka,hs]))
theorem zv6{w:Nat}{q:Int}{kvs:List (Int×D)}{f g:E}(h1:ev[1]? = some (some (.obj w)))(hs:S[w]? = some (.dct kvs))(hf:f ev S=some (.int q,S))(hg:g ev S=some (x,S))(hn:zay kvs q=false)(hl:kvs.length<16777216) :
   zdm (eV 1) f g ev S=some (.nx ev,S.set w (.dct (kvs++[(q,x)]))):=by
 have hz:sizeLine=16777216:=z14;simp only[zdm,hg,Option.bind_some,e_v h1,hf,hs,hn,hz,hl,and_self,z4e]
theorem JB.add{J:Sto}{m:MO}(h:JB J)(hm:zgc 0 m=true):JB (J++[m]):=fun z hz=>(z1p.mp hz).elim (h z) fun e=>(z05.mp e)▸hm
theorem Wk.more{rs:List D}{kvs:List (Int×D)}{td td':List D}(w:Wk P rs kvs td)(h:∀c∈td,c∈td'):Wk P rs kvs td' :=
 ⟨w.ent,w.nd,fun p hp c hc=>(w.cl p hp c hc).imp id fun z=>z.imp (h c) id,fun y hy=>(w.rt y hy).imp id fun z=>z.imp (h y) id⟩
theorem Wk.skipN{rs:List D}{kvs:List (Int×D)}{td:List D}(w:Wk P rs kvs (td++[.non])):Wk P rs kvs td:=by
 have f:∀c:D,c=.non\/c∈td++[.non]\/zay kvs (num c)=true->c=.non\/c∈td\/zay kvs (num c)=true:=fun c hc=>by
   rcases hc with z | z | z
   · exact .inl z
   · rcases z1p.mp z with y | y
     · exact .inr (.inl y)
     · exact .inl (z05.mp y)
   · exact .inr (.inr z)
 exact⟨w.ent,w.nd,fun p hp c hc=>f c (w.cl p hp c hc),fun y hy=>f y (w.rt y hy)⟩
inductive Nq (P:D->Prop):List D->Nat->Prop where
 |nil:Nq P [] 0
 |snoc {td:List D}{x:D}{c a:Nat}:Nq P td c->Nt P x a->Nq P (td++[x]) (c+2*a+1)
theorem Nt.bnd{x:D}{a:Nat}(m:Nt P x a):F.bnd 0 x=true:=by
 cases m with
 |non=>rfl
 |node _ hb _ _=>exact hb
theorem Nq.bnd{td:List D}{c:Nat}(m:Nq P td c):∀x∈td,F.bnd 0 x=true:=by
 induction m with
 |nil=>intro x hx;cases hx
 | snoc _ hx ih=>
   intro y hy;rcases z1p.mp hy with q | q
   · exact ih y q
   · rw[z05.mp q];exact hx.bnd
theorem Nq.len{td:List D}{c:Nat}(m:Nq P td c):td.length<=c:=by
 induction m with
 |nil=>exact z07 _
 |snoc _ _ ih=>rw[z03,List.length_singleton];omega
def nB:C:=(zw (qv 3 (zs3 (eV 2))) (sIf (zho (bE (e2 ji (eV 3) (eK .non))) (bE (e2s ka (e2s qf (eV 3) (eK (.int 0))) (eV 1)))) (zw (zdm (eV 1) (e2s qf (eV 3) (eK (.int 0))) (eV 3)) (zw (jz (eV 2) (e2s qf (eV 3) (eK (.int 2)))) (jz (eV 2) (e2s qf (eV 3) (eK (.int 4)))))) je))
def nE(A:D)(b:Nat)(o:Option D):Ev:=[some A,some (.obj b),some (.obj (b+1)),o]
theorem zz5(B:Sto)(m m':MO):(B++[m,m'])[B.length+1]? = some m':=zze B [m'] m 0
theorem ztu(B:Sto)(m m' x:MO):(B++[m,m']).set (B.length+1) x=B++[m,x]:=zxq B [m'] m x 0
theorem zfh{rs:List D}(A:D)(B:Sto):∀(f:Nat) {c:Nat}{td:List D}{kvs:List (Int×D)} (o3:Option D),Nq P td c->c<f->Wk P rs kvs td->kvs.length+c<=100000 ->
   ∃kvs' o3',zbw (bE (e2s zdz (eV 2) (ya aN))) nB f (nE A B.length o3) (B++[.dct kvs,.lst td])=some (.nx (nE A B.length o3'),B++[.dct kvs',.lst []])/\Wk P rs kvs' []/\kvs'.length<=kvs.length+c
 |0,_,_,_,_,_,hf,_,_=>by omega
 | f+1,c,td,kvs,o3,ht,hf,wk,hl=>by
   have hs:(B++[.dct kvs,.lst td])[B.length+1]? = some (.lst td):=zz5 B _ _;have cnd:=z0p (ev:=nE A B.length o3) (w:=B.length+1) rfl hs (zbv ht.bnd);unfold zbw;rw[cnd];cases ht with
   |nil=>exact⟨kvs,o3,rfl,wk,z07 _⟩
   | @snoc td x c a ht hx=>
     rw[show(!(td++[x]).isEmpty)=true by simp];have tl:=ht.len;have s1:qv 3 (zs3 (eV 2)) (nE A B.length o3) (B++[.dct kvs,.lst (td++[x])])=some (.nx (nE A B.length (some x)),B++[.dct kvs,.lst td]):=by refine zo ((zx0 rfl hs).trans ?_);rw[ztu]
     have hd:(B++[.dct kvs,.lst td])[B.length]? = some (.dct kvs):=zp4 B _ _;have go:∀{kvs1:List (Int×D)}{td1:List D}{c1:Nat},nB (nE A B.length o3) (B++[.dct kvs,.lst (td++[x])])=some (.nx (nE A B.length (some x)),B++[.dct kvs1,.lst td1])->Nq P td1 c1->c1<f->Wk P rs kvs1 td1->kvs1.length+c1<=kvs.length+(c+2*a+1) ->
         ∃kvs' o3',((some (true,B++[.dct kvs,.lst (td++[x])]):Option (Bool×Sto)).bind fun p=>if p.1=true then (nB (nE A B.length o3) p.2).bind fun q=>match q.1 with | .nx e=>zbw (bE (e2s zdz (eV 2) (ya aN))) nB f e q.2 | .ct e=>zbw (bE (e2s zdz (eV 2) (ya aN))) nB f e q.2 | .bk e=>some (.nx e,q.2) | .rt v=>some (.rt v,q.2)else some (.nx (nE A B.length o3),p.2))=some (.nx (nE A B.length o3'),B++[.dct kvs',.lst []])/\Wk P rs kvs' []/\kvs'.length<=kvs.length+(c+2*a+1):=fun hb h1 h2 h3 h4=>by
       obtain⟨kvs',o3',w,wk',l'⟩:=zfh A B f (some x) h1 h2 h3 (by omega);refine⟨kvs',o3',?_,wk',by omega⟩;simp only[Option.bind_some,z4e,hb,w]
     have xn:∀{v:D},ji v .non=some (.bl true)->bE (e2 ji (eV 3) (eK .non)) (nE A B.length (some v)) (B++[.dct kvs,.lst td])=some (true,B++[.dct kvs,.lst td]):=fun h=>jb (e_2 (e_v rfl) e_k h);cases hx with
     |non=>exact go (zh s1 (zp (zix (jb (e_2 (e_v rfl) e_k rfl))))) ht (by omega) wk.skipN (by omega)
     | @node m ab l t r sz hh to ba al ar hp hb nl nr=>
       have ix0:e2s qf (eV 3) (eK (.int 0)) (nE A B.length (some (mkD m ab l t r sz hh to ba))) (B++[.dct kvs,.lst td])=some (.int m,B++[.dct kvs,.lst td]):=qj (e_v rfl) e_k rfl;have ni:=zrh (w:=B.length) (ev:=nE A B.length (some (mkD m ab l t r sz hh to ba))) rfl hd ix0;cases hq:zay kvs m with
       | true=>
         rw[hq]at ni;exact go (zh s1 (zp (zb3 (xn (zij _)) ni))) ht (by omega) (wk.skip hq) (by omega)
       | false=>
         rw[hq]at ni;have p1:zdm (eV 1) (e2s qf (eV 3) (eK (.int 0))) (eV 3) (nE A B.length (some (mkD m ab l t r sz hh to ba))) (B++[.dct kvs,.lst td])=some (.nx (nE A B.length (some (mkD m ab l t r sz hh to ba))),B++[.dct (kvs++[(m,mkD m ab l t r sz hh to ba)]),.lst td]):=by rw[zv6 (w:=B.length) rfl hd ix0 (e_v rfl) hq (by omega),zfa]
         have p2:∀(us:List D) (kv2:List (Int×D)) (v:E) (y:D),(∀S,v (nE A B.length (some (mkD m ab l t r sz hh to ba))) S=some (y,S))->us.length<16777216->jz (eV 2) v (nE A B.length (some (mkD m ab l t r sz hh to ba))) (B++[.dct kv2,.lst us])=some (.nx (nE A B.length (some (mkD m ab l t r sz hh to ba))),B++[.dct kv2,.lst (us++[y])]):=fun us kv2 v y hv hu=>by rw[zj9 (q:=2) (j:=B.length+1) rfl (zz5 B _ _) (hv _) hu,ztu]
         have hl2:l=.non\/nn l=true:=by cases nl with | non=>exact .inl rfl | node _ _ _ _=>exact .inr rfl
         have hr2:r=.non\/nn r=true:=by cases nr with | non=>exact .inl rfl | node _ _ _ _=>exact .inr rfl
         have wk2:=(wk.take hp hb hq hl2 hr2).more (td':=td++[l]++[r]) fun c hc=>by
           rcases z1p.mp hc with z | z
           · simp[z]
           · have:=(z3h.mp z).1;simp only[z1e,List.not_mem_nil,or_false]at this;rcases this with rfl | rfl<;>simp
         exact go (zh s1 (qh (zb3 (xn (zij _)) ni) (zh p1 (zh (p2 _ _ _ l (fun S=>qj (e_v rfl) e_k rfl) (by omega)) (p2 _ _ _ r (fun S=>qj (e_v rfl) e_k rfl) (by rw[z03];simp;omega)))))) (.snoc (.snoc ht nl) nr) (by omega) wk2 (by rw[z03];simp;omega)
end Pg
namespace Pg
open PySem L2 F Mt
variable {k:Nat} [Kd k] {d l r t x y:D}{ts lt rt:List D}{h lh rh i:Nat}{n:Int}{S S0 S1:Sto}{ev e:Ev}{P Q:D->Prop}{a b new:List D}{ks os ms:List Int}
theorem zpj{g:G}{ds:List D}{J:Sto}{c:Bool}(hS:SB S)(hg:g ds S=some (.bl c,S++J)):frz g ds S=some (.bl c,S):=by unfold frz;rw[hg];have e1:(S++J).take S.length=S:=List.take_left;have e2:S.all (zgc S.length)=true:=z12.mpr hS;simp only[Option.bind_some,e1,e2,z4e,bnd]
def In(d v:D):Prop:=∀Q:D->Prop,All Q d->Q v
theorem zwq{c:Nat}(m:Nt P d c):All (In d) d:=by
 induction m with
 |non=>exact .non
 | @node m a l t r sz ht to ba x y hp hb hl hr il ir=>
   refine .node (fun Q hQ=>?_) (il.mono fun v hv Q hQ=>hv Q hQ.inv.1) (ir.mono fun v hv Q hQ=>hv Q hQ.inv.2);generalize hd:mkD m a l t r sz ht to ba=d at hQ;cases hQ with
   |non=>cases hd
   |node p _ _=>exact p
theorem zd0:∀{xs:List Int}{n:Int}{N:Nat},xs.Nodup->(∀x∈xs,∃j:Nat,j<N/\x=n+j)->xs.length<=N
 | xs,n,0,_,h=>by
   cases xs with
   |nil=>exact z07 _
   |cons x xs=>obtain⟨j,hj,_⟩:=h x (z1j ..);omega
 | xs,n,N+1,nd,h=>by
   by_cases hm:n+(N:Int)∈xs
   · have h1:=zd0 (xs:=xs.erase (n+(N:Int))) (n:=n) (N:=N) (nd.erase _) fun x hx=>by
       have hx':=(List.Nodup.mem_erase_iff nd).mp hx;obtain⟨j,hj,e⟩:=h x hx'.2;refine⟨j,?_,e⟩;by_cases z:j=N
       · subst z;exact absurd e hx'.1
       · omega
     rw[List.length_erase_of_mem hm]at h1;omega
   · have h1:=zd0 (xs:=xs) (n:=n) (N:=N) nd fun x hx=>by
       obtain⟨j,hj,e⟩:=h x hx;refine⟨j,?_,e⟩;by_cases z:j=N
       · subst z;exact absurd (e▸hx) hm
       · omega
     omega
def kv(ks:List Int):List (Int×D):=ks.map fun k=>(k,.bl true)
theorem zu4(m:Nat):∀ks:List Int,bndL m ((kv ks).map (·.2))=true
 | []=>rfl
 | k::ks=>by show(true&&bndL m ((kv ks).map (·.2)))=true;rw[zu4 m ks];rfl
def zgh(ks:List Int)(k:Int):List Int:=if k∈ks then ks else ks++[k]
theorem zpi(k:Int):zay (kv ks) k=decide (k∈ks):=by
 unfold zay kv;rw[List.any_map]
 induction ks with
 |nil=>rfl
 | cons a ks ih=>
   rw[List.any_cons,ih];show(decide (a=k)||decide (k∈ks))=_;rw[<-Bool.decide_or,z3d,z1e,eq_comm (a:=a)]
theorem zt3(k:Int):zi9 (kv ks) k (.bl true)=kv (zgh ks k):=by
 unfold zi9 zgh;rw[zpi];by_cases h:k∈ks
 · rw[z1t (z1c h),z1t h];unfold kv;rw[z3g];refine List.map_congr_left fun a _=>?_;show(if a=k then (a,D.bl true)else (a,D.bl true))=_;rw[ite_self]
 · rw[z10 (by rw[z1b h];simp),z10 h];unfold kv;rw[z2h];rfl
theorem zst(h:ks.Nodup)(k:Int):(zgh ks k).Nodup:=by
 unfold zgh;split
 · exact h
 · rename_i q;exact z2q.mpr ⟨h,z2g.mpr ⟨by simp,z4i⟩,fun a ha b hb e=>q (by rw[z05.mp hb]at e;exact e▸ha)⟩
theorem zcc(k:Int):(zgh ks k).length<=ks.length+1:=by
 unfold zgh;split
 · omega
 · rw[z03];exact z07 _
mutual
theorem zwn{m q:Nat}(hm:q<=m):∀{d:D},bnd q d=true->bnd m d=true
 | .obj i,hb=>by unfold bnd at hb ⊢;exact z1c (z1d (z2x hb) hm)
 | .tup ds,hb=>by unfold bnd at hb ⊢;exact bndL_le hm hb
 | .lst ds,hb=>by unfold bnd at hb ⊢;exact bndL_le hm hb
 | .non,_=>by unfold bnd;rfl
 | .bl _,_=>by unfold bnd;rfl
 | .int _,_=>by unfold bnd;rfl
 | .str _,_=>by unfold bnd;rfl
 | .fn _,_=>by unfold bnd;rfl
 | .ty _,_=>by unfold bnd;rfl
 | .lam _,_=>by unfold bnd;rfl
 | .clo _ ds,hb=>by unfold bnd at hb ⊢;exact bndL_le hm hb
theorem bndL_le{m q:Nat}(hm:q<=m):∀{ds:List D},bndL q ds=true->bndL m ds=true
 | [],_=>rfl
 | d::ds,hb=>by unfold bndL at hb ⊢;obtain⟨h1,h2⟩:=z3x.mp hb;rw[zwn hm h1,bndL_le hm h2];rfl
end
theorem zc4{m q:Nat}(hm:q<=m){o:MO}(hb:zgc q o=true):zgc m o=true:=by
 cases o with
 |lst ds=>exact bndL_le hm hb
 |ins c fs=>exact bndL_le hm hb
 |dct kvs=>exact bndL_le hm hb
 |fdc kvs=>exact bndL_le hm hb
 |exc c=>rfl
 |tab x q=>rfl
theorem zki{J:Sto}(hS:SB S)(hJ:JB J):SB (S++J):=fun m hm=>by
 rcases z1p.mp hm with z | z
 · exact zc4 (by simp) (hS m z)
 · exact zc4 (z1y _) (hJ m z)
theorem za9{c:Nat}(m:Nt P d c)(hc:c<=2000)(hS:SB S):∃kvs,Wk P [d] kvs []/\kvs.length<=5000/\zv [d] S=some (.obj S.length,S++[.dct kvs]):=by
 have nq:Nq P ([]++[d]) (0+2*c+1):=.snoc .nil m;have w0:Wk P [d] [] [d]:=⟨fun p hp=>by (cases hp),z4i,fun p hp=>by (cases hp),fun x hx=>.inr (.inl hx)⟩
 obtain⟨kvs,o3,lp,wk,hl⟩:=zfh (rs:=[d]) d S 5000 none nq (by omega) w0 (by simp;omega);have hk:kvs.length<=5000:=by simp at hl;omega
 refine⟨kvs,wk,hk,?_⟩;have e1:zfx (aC (eV 0) aN) [some d,some (.obj S.length),none,none] (S++[.dct []])=some (.obj (S.length+1),S++[.dct [],.lst [d]]):=by rw[zpu (ds:=[d]) (a_c (e_v rfl) a_n) (by simp)];simp
 have run:z5 4 1 zav [d] S=some (.obj S.length,S++[.dct kvs,.lst []]):=jl rfl (zh (zo (d:=.obj S.length) (S1:=S++[MO.dct []]) rfl) (zh (zo e1) (zh lp (zt (e_v rfl)))));have bd:zgc S.length (.dct kvs)=true:=zbv fun x hx=>by obtain⟨p,hp,rfl⟩:=z1x.mp hx;exact zp2 (wk.ent p hp).2.2
 unfold zv frzD;rw[run];have e2:(S++[MO.dct kvs,.lst []]).take S.length=S:=List.take_left;have e3:S.all (zgc S.length)=true:=z12.mpr hS;have e4:(S++[MO.dct kvs,.lst []])[S.length]? = some (.dct kvs):=zp4 S _ _;simp only[Option.bind_some,e2,e3,e4,z07,and_self,z4e,bd]
theorem zcu(m:Mk k d ts h)(S:Sto):jt [d] S=some (.int h,S):=by
 cases m with
 |non=>rfl
 |node _ _ _ _ _=>rfl
def zoq(os ks:List Int):List Int:=ks.foldl zgh os
theorem addk_mem{q k:Int}:q∈zgh os k↔q∈os\/q=k:=by
 unfold zgh;split
 · rename_i z;exact⟨.inl,fun y=>y.elim id fun e=>e▸z⟩
 · rw[z1p,z05]
theorem adds_mem{q:Int}:∀{ks os:List Int},q∈zoq os ks↔q∈os\/q∈ks
 | [],os=>by simp[zoq]
 | k::ks,os=>by show q∈zoq (zgh os k) ks↔_;rw[adds_mem,addk_mem,z1e,or_assoc]
theorem zi0:∀{ks os:List Int},(zoq os ks).length<=os.length+ks.length
 | [],os=>by simp[zoq]
 | k::ks,os=>by have h1:=zi0 (ks:=ks) (os:=zgh os k);have h2:=zcc (ks:=os) k;show(zoq (zgh os k) ks).length<=_;rw[List.length_cons];omega
open Classical in
def znp(os ns ks:List Int):List Int:=ks.foldl (fun a q=>if q∈os then a else zgh a q) ns
open Classical in
theorem zfj(ns:List Int)(q:Int)(ks:List Int):znp os ns (q::ks)=znp os (if q∈os then ns else zgh ns q) ks:=rfl
open Classical in
theorem zgu:∀{ks ns:List Int},ns.Nodup->(znp os ns ks).Nodup/\(znp os ns ks).length<=ns.length+ks.length/\∀q∈znp os ns ks,q∈ns\/q∈ks/\q∉os
 | [],ns,h=>⟨h,by simp[znp],fun q hq=>.inl hq⟩
 | k::ks,ns,h=>by
   rw[zfj];by_cases z:k∈os
   · rw[z1t z];obtain⟨h1,h2,h3⟩:=zgu (ks:=ks) h;exact⟨h1,by rw[List.length_cons];omega,fun q hq=>(h3 q hq).imp id fun y=>⟨z09 _ y.1,y.2⟩⟩
   · rw[z10 z];obtain⟨h1,h2,h3⟩:=zgu (ks:=ks) (zst h k);have:=zcc (ks:=ns) k;refine⟨h1,by rw[List.length_cons];omega,fun q hq=>?_⟩;rcases h3 q hq with y | y
     · rcases addk_mem.mp y with y | rfl
       · exact .inl y
       · exact .inr ⟨z1j ..,z⟩
     · exact .inr ⟨z09 _ y.1,y.2⟩
theorem zo6{q w:Nat}{k:Int}(hq:ev[q]? = some (some (.obj w)))(h6:ev[6]? = some (some (.int k)))(hs:S[w]? = some (.dct (kv os)))(hl:os.length<1000000):ye (eV q) (eV 6) (eK (.bl true)) ev S=some (.nx ev,S.set w (.dct (kv (zgh os k)))):=by
 have hz:sizeLine=16777216:=z14;have hk:(kv os).length<sizeLine:=by unfold kv;rw[z1q];omega
 have e0:eK (.bl true) ev S=some (.bl true,S):=rfl;simp only[ye,e0,Option.bind_some,e_v hq,e_v h6,hs,z1t hk,zt3]
def fE(rs fs:List D)(tm:Int)(b:Nat)(mo:Int)(o5 o6 o7:Option D):Ev:=[some (.lst rs),some (.lst fs),some (.int tm),some (.obj b),some (.int mo),o5,o6,o7]
theorem zh5(rs fs:List D)(tm mo:Int)(o5 o7:Option D)(B J:Sto):∀(ks os:List Int) (o6:Option D),os.length+ks.length<1000000->∃o6',yc 6 (ye (eV 3) (eV 6) (eK (.bl true))) (ks.map D.int) (fE rs fs tm B.length mo o5 o6 o7) (B++.dct (kv os)::J)=some (.nx (fE rs fs tm B.length mo o5 o6' o7),B++.dct (kv (zoq os ks))::J)
 | [],os,o6,_=>⟨o6,rfl⟩
 | q::ks,os,o6,hl=>by rw[List.length_cons]at hl;have al:=zcc (ks:=os) q;obtain⟨o6',ih⟩:=zh5 rs fs tm mo o5 o7 B J ks (zgh os q) (some (.int q)) (by omega);refine⟨o6',yi ?_ ih⟩;exact(zo6 (ev:=fE rs fs tm B.length mo o5 (some (.int q)) o7) (q:=3) (w:=B.length) rfl rfl (zp4 B J _) (by omega)).trans (by rw[zfa])
open Classical in
theorem zd1(rs fs:List D)(tm mo:Int)(o5:Option D){b:Nat}(B J:Sto)(hb:∀ns:List Int,(B++MO.dct (kv ns)::J)[b]? = some (.dct (kv os))):∀(ks ns:List Int) (o6:Option D),ns.length+ks.length<1000000->∃o6',yc 6 (sIf (bE (e2s ka (eV 6) (eV 3))) (ye (eV 7) (eV 6) (eK (.bl true))) je) (ks.map D.int) (fE rs fs tm b mo o5 o6 (some (.obj B.length))) (B++.dct (kv ns)::J)=some (.nx (fE rs fs tm b mo o5 o6' (some (.obj B.length))),B++.dct (kv (znp os ns ks))::J)
 | [],ns,o6,_=>⟨o6,rfl⟩
 | q::ks,ns,o6,hl=>by
   rw[List.length_cons]at hl;have al:=zcc (ks:=ns) q;have nt:bE (e2s ka (eV 6) (eV 3)) (fE rs fs tm b mo o5 (some (.int q)) (some (.obj B.length))) (B++.dct (kv ns)::J)=some (!decide (q∈os),B++.dct (kv ns)::J):=jb (qj (e_v rfl) (e_v rfl) (by simp only[ka,hb ns,zpi]));rw[zfj];by_cases z:q∈os
   · rw[z1t z];obtain⟨o6',ih⟩:=zd1 rs fs tm mo o5 B J hb ks ns (some (.int q)) (by omega);exact⟨o6',yi (zp (nt.trans (by rw[z1c z];rfl))) ih⟩
   · rw[z10 z];obtain⟨o6',ih⟩:=zd1 rs fs tm mo o5 B J hb ks (zgh ns q) (some (.int q)) (by omega);exact⟨o6',yi (qh (nt.trans (by rw[z1b z];rfl)) ((zo6 (ev:=fE rs fs tm b mo o5 (some (.int q)) (some (.obj B.length))) (q:=7) (w:=B.length) rfl rfl (zp4 B J _) (by omega)).trans (by rw[zfa]))) ih⟩
theorem zl1{i:Nat}{f:E}{b:C}{kvs:List (Int×D)}{o:Out}{S2:Sto}(h:f ev S=some (.obj S1.length,S1++[.dct kvs]))(q:yc i b ((kvs.map (·.1)).map D.int) ev (S1++[.fdc kvs])=some (o,S2)):zda i f b ev S=some (o,S2):=by have e1:(S1++[MO.dct kvs])[S1.length]? = some (.dct kvs):=zp4 S1 [] _;have e2:(S1++[MO.dct kvs]).set S1.length (.fdc kvs)=S1++[.fdc kvs]:=zfa S1 [] _ _;simp only[zda,h,Option.bind_some,e1,e2];rw[z3g]at q;exact q
end Pg
namespace Pg
open PySem L2 F Mt
variable {k:Nat} [Kd k] {d l r t x y:D}{ts lt rt rs fs:List D}{h lh rh i:Nat}{n tm:Int}{S S0 S1 B J:Sto}{ev e:Ev}{P P' Q:D->Prop}{a b new w:List D}{ks os ms:List Int}
theorem zya(x y:Nat)(S:Sto):(znq S [.int x,.int y]:Option D)=some (.int (max x y:Nat)):=by show some (D.int (if(y:Int)>x then (y:Int)else x))=_;congr 2;split<;>omega
def Hm(P:D->Prop)(x:D):Prop:=∃c hh:Nat,Nt P x c/\c<=2000/\∀S,jt [x] S=some (.int hh,S)
theorem zrq(hJ:JB J)(os:List Int):JB (.dct (kv os)::J):=fun m hm=>by
 rcases z1e.mp hm with rfl | hm
 · exact zu4 0 os
 · exact hJ m hm
theorem zyj{kvs:List (Int×D)}{rs td:List D}(hJ:JB J)(w:Wk P rs kvs td):JB (J++[.fdc kvs]):=hJ.add (zbv fun x hx=>by
 obtain⟨p,hp,rfl⟩:=z1x.mp hx;exact(w.ent p hp).2.2)
def fB1:C:=(zw (qv 4 (eA znq (aC (eV 4) (aC (zk jt (aC (eV 5) aN)) aN)))) (zda 6 (zk zv (aC (eV 5) aN)) (ye (eV 3) (eV 6) (eK (.bl true)))))
theorem zia(hB:SB B):∀(l:List D),(∀x∈l,Hm P x)->∀(os:List Int) (J:Sto) (mo:Nat) (o5 o6:Option D),JB J->os.length+5000*l.length<900000 ->
   ∃os' J' mo' o5' o6',JB J'/\yc 5 fB1 l (fE rs fs tm B.length (mo:Nat) o5 o6 none) (B++.dct (kv os)::J)=some (.nx (fE rs fs tm B.length ((mo':Nat):Int) o5' o6' none),B++.dct (kv os')::J')/\os'.length<=os.length+5000*l.length/\(∀q∈os,q∈os')/\(∀x∈l,∃kvs,Wk P [x] kvs []/\∀p∈kvs,p.1∈os')/\mo<=mo'/\(∀x∈l,∀hh:Nat,(∀S,jt [x] S=some (.int hh,S))->hh<=mo')
 | [],_,os,J,mo,o5,o6,hJ,_=>⟨os,J,mo,o5,o6,hJ,rfl,by simp,fun q h=>h,fun x hx=>(by cases hx),z07 _,fun x hx=>(by cases hx)⟩
 | x::l,hx,os,J,mo,o5,o6,hJ,hl=>by
   rw[List.length_cons]at hl;obtain⟨c,hh,nt,hc,hhi⟩:=hx x (z1j ..);obtain⟨kvs,wk,kl,co⟩:=za9 (S:=B++.dct (kv os)::J) nt hc (zki hB (zrq hJ os));have ml:(kvs.map (·.1)).length<=5000:=by rw[z1q];exact kl
   have al:=zi0 (ks:=kvs.map (·.1)) (os:=os);obtain⟨o6a,pl⟩:=zh5 rs fs tm ((max mo hh:Nat):Int) (some x) none B (J++[.fdc kvs]) (kvs.map (·.1)) os o6 (by omega);obtain⟨os',J',mo',o5',o6',j',lp,hle,sub,cov,mle,hgt⟩:=zia hB l (fun y hy=>hx y (z09 _ hy)) (zoq os (kvs.map (·.1))) (J++[.fdc kvs]) (max mo hh) (some x) o6a (zyj hJ wk) (by omega);have s1:qv 4 (eA znq (aC (eV 4) (aC (zk jt (aC (eV 5) aN)) aN))) (fE rs fs tm B.length (mo:Nat) (some x) o6 none) (B++.dct (kv os)::J)=some (.nx (fE rs fs tm B.length ((max mo hh:Nat):Int) (some x) o6 none),B++.dct (kv os)::J):=zo (e_a (a_c (e_v rfl) (a_c (zg (a_c (e_v rfl) a_n) (hhi _)) a_n)) (zya mo hh _));have s2:zda 6 (zk zv (aC (eV 5) aN)) (ye (eV 3) (eV 6) (eK (.bl true))) (fE rs fs tm B.length ((max mo hh:Nat):Int) (some x) o6 none) (B++.dct (kv os)::J)=some (.nx (fE rs fs tm B.length ((max mo hh:Nat):Int) (some x) o6a none),B++.dct (kv (zoq os (kvs.map (·.1))))::(J++[.fdc kvs])):=by refine zl1 (zg (a_c (e_v rfl) a_n) co) ?_;rw[z2r,List.cons_append];exact pl
   refine⟨os',J',mo',o5',o6',j',yi (zh s1 s2) lp,by rw[List.length_cons];omega,fun q hq=>sub q (adds_mem.mpr (.inl hq)),fun y hy=>?_,by omega,fun y hy hh' e=>?_⟩
   · rcases z1e.mp hy with rfl | hy
     · exact⟨kvs,wk,fun p hp=>sub _ (adds_mem.mpr (.inr (z1x.mpr ⟨p,hp,rfl⟩)))⟩
     · exact cov y hy
   · rcases z1e.mp hy with rfl | hy
     · have:(.int (hh':Int):D)=.int hh:=z2f (fun z:D×Sto=>z.1) (z1s ((e []).symm.trans (hhi [])));have:=D.int.inj this;omega
     · exact hgt y hy hh' e
def fB2:C:=(zda 6 (zk zv (aC (eV 5) aN)) (sIf (bE (e2s ka (eV 6) (eV 3))) (ye (eV 7) (eV 6) (eK (.bl true))) je))
theorem zfk{b:Nat}{mo:Int}(hB:SB B)(hb:B[b]? = some (.dct (kv os))):∀(l:List D),(∀x∈l,Hm P x)->∀(ns:List Int) (J:Sto) (o5 o6:Option D),ns.Nodup->JB J->ns.length+5000*l.length<900000 ->
   ∃ns' J' o5' o6',JB J'/\ns'.Nodup/\yc 5 fB2 l (fE rs fs tm b mo o5 o6 (some (.obj B.length))) (B++.dct (kv ns)::J)=some (.nx (fE rs fs tm b mo o5' o6' (some (.obj B.length))),B++.dct (kv ns')::J')/\∀q∈ns',q∈ns\/(∃v,P v/\q=num v)/\q∉os
 | [],_,ns,J,o5,o6,nd,hJ,_=>⟨ns,J,o5,o6,hJ,nd,rfl,fun q h=>.inl h⟩
 | x::l,hx,ns,J,o5,o6,nd,hJ,hl=>by
   rw[List.length_cons]at hl;obtain⟨c,hh,nt,hc,hhi⟩:=hx x (z1j ..);obtain⟨kvs,wk,kl,co⟩:=za9 (S:=B++.dct (kv ns)::J) nt hc (zki hB (zrq hJ ns));have ml:(kvs.map (·.1)).length<=5000:=by rw[z1q];exact kl
   obtain⟨nd1,nl1,nm1⟩:=zgu (os:=os) (ks:=kvs.map (·.1)) nd;have hbl:b<B.length:=(z06.mp hb).1;obtain⟨o6a,pl⟩:=zd1 (os:=os) rs fs tm mo (some x) (b:=b) B (J++[.fdc kvs]) (fun ns=>by rw[z1k hbl];exact hb) (kvs.map (·.1)) ns o6 (by omega);obtain⟨ns',J',o5',o6',j',nd',lp,mem⟩:=zfk hB hb l (fun y hy=>hx y (z09 _ hy)) (znp os ns (kvs.map (·.1))) (J++[.fdc kvs]) (some x) o6a nd1 (zyj hJ wk) (by omega);have s2:fB2 (fE rs fs tm b mo (some x) o6 (some (.obj B.length))) (B++.dct (kv ns)::J)=some (.nx (fE rs fs tm b mo (some x) o6a (some (.obj B.length))),B++.dct (kv (znp os ns (kvs.map (·.1))))::(J++[.fdc kvs])):=by refine zl1 (zg (a_c (e_v rfl) a_n) co) ?_;rw[z2r,List.cons_append];exact pl
   refine⟨ns',J',o5',o6',j',nd',yi s2 lp,fun q hq=>?_⟩;rcases mem q hq with z | z
   · rcases nm1 q z with y | ⟨y,y2⟩
     · exact .inl y
     · obtain⟨p,hp,rfl⟩:=z1x.mp y;obtain⟨e1,e2,_⟩:=wk.ent p hp;exact .inr ⟨⟨p.2,e1,e2⟩,y2⟩
   · exact .inr z
theorem zpl{N:Nat}(hS:SB S)(hr:∀x∈rs,Hm P x)(rl:rs.length<=10)(hU:∀v v',P v->P v'->num v=num v'->v=v')(hf:∀x∈fs,Hm P' x)(fl:fs.length<=10)
   (hN:∀v,P' v->(∃x∈rs,In x v)\/∃j:Nat,j<N/\num v=n+j) (ht:0<=tm/\tm<1000) (hm:∀mo:Nat,(∀x∈rs,∀hh:Nat,(∀S,jt [x] S=some (.int hh,S))->hh<=mo)->(N:Int)<=tm*((mo:Int)+2)) :
   jk [.lst rs,.lst fs,.int tm] S=some (.bl true,S):=by
 obtain⟨os,J,mo,o5,o6,hJ,lp,ol,_,cov,_,hgt⟩:=zia (rs:=rs) (fs:=fs) (tm:=tm) hS rs hr [] [] 0 none none (fun m hm=>by cases hm) (by simp;omega);have hb:(S++MO.dct (kv os)::J)[S.length]? = some (.dct (kv os)):=zp4 S J _;have sb2:SB (S++MO.dct (kv os)::J):=zki hS (zrq hJ os);obtain⟨ns,J2,o5',o6',hJ2,nd,lp2,mem⟩:=zfk (rs:=rs) (fs:=fs) (tm:=tm) (mo:=(mo:Nat)) sb2 hb fs hf [] [] o5 o6 z4i (fun m hm=>by cases hm) (by simp;omega);have hall:∀x∈rs,All (fun v=>num v∈os) x:=fun x hx=>by obtain⟨c,hh,nt,_⟩:=hr x hx;obtain⟨kvs,wk,hk⟩:=cov x hx;refine(wk.done hU nt ((wk.rt x (z05.mpr rfl)).imp id fun z=>z.elim (fun q=>by cases q) id)).mono fun v hv=>?_;obtain⟨p,hp,e⟩:=zlt hv;exact e▸hk p hp
 have hlen:ns.length<=N:=zd0 (n:=n) nd fun q hq=>by
   rcases mem q hq with z | ⟨⟨v,pv,rfl⟩,z⟩
   · cases z
   · rcases hN v pv with⟨x,hx,y⟩ | ⟨j,hj,y⟩
     · exact absurd (y _ (hall x hx)) z
     · exact⟨j,hj,y⟩
 have kl:(kv ns).length=ns.length:=by unfold kv;rw[z1q]
 have run:z5 8 3 zdt [.lst rs,.lst fs,.int tm] S=some (.bl true,(S++.dct (kv os)::J)++.dct (kv ns)::J2):=by
   refine jl rfl (zh (zo (d:=.obj S.length) (S1:=S++[MO.dct (kv [])]) rfl) (zh (zo e_k) (zh (zgm (b:=fB1) (e_v rfl) lp) (zh (zo (d:=.obj (S++MO.dct (kv os)::J).length) (S1:=(S++MO.dct (kv os)::J)++[MO.dct (kv [])]) rfl) (zh (zgm (b:=fB2) (e_v rfl) lp2) (zt (e_2 (x:=.int (ns.length:Nat)) (y:=.int (tm*((mo:Int)+2))) (e_a (a_c (e_v rfl) a_n) ?_) (e_2 (x:=.int tm) (y:=.int ((mo:Int)+2)) (e_v rfl) (e_2 (x:=.int (mo:Nat)) (e_v rfl) (e_k (d:=.int 2)) (add_int _ _)) (zai ⟨by omega,by omega⟩)) ?_)))))))
   · simp only[zlc,zp4,kl]
   · show some (D.bl (decide _))=some (D.bl true);rw[z1c];exact Int.le_trans (Int.ofNat_le.mpr hlen) (hm mo hgt)
 rw[z2r]at run;exact zpj hS run
end Pg
namespace Pg
open PySem L2 F Mt
variable {k:Nat} [Kd k] {d l r t x y:D}{ts lt rt rs fs:List D}{h lh rh i:Nat}{n tm:Int}{S S0 S1 B J:Sto}{ev e:Ev}{P P' Q:D->Prop}{a b new w:List D}{ks os ms:List Int}
abbrev U(w:List D):D->Prop:=Ac (fun _=>False) 0 w
theorem zxc{v v':D}(h1:U w v)(h2:U w v')(e:num v=num v'):v=v':=by
 rcases h1 with h | ⟨j,p,q⟩
 · exact h.elim
 · rcases h2 with h | ⟨j',p',q'⟩
   · exact h.elim
   · have:j=j':=by omega
     subst this;exact z1s (p.symm.trans p')
theorem All.and(h:All P d)(h':All Q d):All (fun v=>P v/\Q v) d:=by
 induction h with
 |non=>exact .non
 | @node m a l t r sz ht to ba hp hl hr il ir=>
   refine .node ⟨hp,?_⟩ (il h'.inv.1) (ir h'.inv.2);generalize hd:mkD m a l t r sz ht to ba=d at h';cases h' with
   |non=>cases hd
   |node p _ _=>exact p
abbrev UI(w rs:List D):D->Prop:=fun v=>U w v/\∃x∈rs,In x v
theorem zdu{rs:List D}(m:Mk k d ts h)(al:All (U w) d)(hd:d∈rs):All (UI w rs) d:=(al.and (zwq (Mk.nt m al))).mono fun v hv=>⟨hv.1,d,hd,hv.2⟩
theorem zp5{rs:List D}(al:All (Ac (UI w rs) (0+(w.length:Int)) new) d):All (U (w++new)) d:=All.two (al.mono fun v hv=>hv.imp (fun z=>z.1) id)
theorem zp7{rs:List D}{v:D}(hv:Ac (UI w rs) n new v):(∃x∈rs,In x v)\/∃j:Nat,j<new.length/\num v=n+j :=
 hv.imp (fun z=>z.2) fun⟨j,p,q⟩=>⟨j,(z06.mp p).1,q⟩
def nbr:D->D
 | .tup (.int m::_)=>.int m
 |_=>.non
def kh:D->D
 | .tup [_,a,l,t,r,sz,ht,_,_]=>.tup [a,nbr l,t,nbr r,sz,ht]
 |_=>.non
def Mkn(l:D):Prop:=l=.non\/∃(m:Int) (a:Bool) (x t y:D) (sz ht:Int) (to ba:D),l=mkD m a x t y sz ht to ba
def Nd(k:Nat)(v:D):Prop:=∃(m:Int) (a:Bool) (l t r:D) (sz ht:Int) (to ba:D),v=mkD m a l t r sz ht to ba/\Mkn l/\Mkn r/\Thing k t
theorem zph(m:Mk k d ts h):Mkn d:=by
 cases m with
 |non=>exact .inl rfl
 |node _ _ _ _ _=>exact .inr ⟨_,_,_,_,_,_,_,_,_,rfl⟩
theorem zx9(m:Mk k d ts h):All (Nd k) d:=by
 induction m with
 |non=>exact .non
 |node ml mr ht _ _ il ir=>exact .node ⟨_,_,_,_,_,_,_,_,_,rfl,zph ml,zph mr,ht⟩ il ir
theorem zfi(h:Mkn l)(S:Sto):km [l] S=some (nbr l,S):=by rcases h with rfl | ⟨m,a,x,t,y,sz,ht,to,ba,rfl⟩<;>rfl
theorem zqa{v:D}(h:Nd k v)(S:Sto):zab [v] S=some (kh v,S):=by obtain⟨m,a,l,t,r,sz,ht,to,ba,rfl,hl,hr,_⟩:=h;exact jl rfl (zt (ym (a_c (qj (e_v rfl) e_k rfl) (a_c (zg (a_c (qj (e_v rfl) e_k rfl) a_n) (zfi hl S)) (a_c (qj (e_v rfl) e_k rfl) (a_c (zg (a_c (qj (e_v rfl) e_k rfl) a_n) (zfi hr S)) (a_c (qj (e_v rfl) e_k rfl) (a_c (qj (e_v rfl) e_k rfl) a_n)))))) (z04 rfl)))
theorem zk8(l:D):nbr l=.non\/∃m,nbr l=.int m:=by
 unfold nbr;split
 · exact .inr ⟨_,rfl⟩
 · exact .inl rfl
theorem zo8(l:D)(q:Nat):pl q (nbr l)=true:=by rcases zk8 l with e | ⟨m,e⟩<;>rw[e]<;>cases q<;>rfl
theorem zua{v:D}(h:Nd k v):pl 150 (kh v)=true:=by obtain⟨m,a,l,t,r,sz,ht,to,ba,rfl,hl,hr,hth⟩:=h;show(pl 149 (.bl a)&&(pl 149 (nbr l)&&(pl 149 t&&(pl 149 (nbr r)&&(pl 149 (.int sz)&&(pl 149 (.int ht)&&true))))))=true;rw[zo8,zo8,zq3 (by decide) (zng hth)];rfl
theorem zsq{v:D}(h:Nd k v)(q:Nat):bnd q (kh v)=true:=by obtain⟨m,a,l,t,r,sz,ht,to,ba,rfl,hl,hr,hth⟩:=h;show(bnd q (.bl a)&&(bnd q (nbr l)&&(bnd q t&&(bnd q (nbr r)&&(bnd q (.int sz)&&(bnd q (.int ht)&&true))))))=true;rw[zgb hth];rcases zk8 l with e | ⟨m,e⟩<;>rcases zk8 r with e' | ⟨m',e'⟩<;>rw[e,e']<;>rfl
abbrev UN(k:Nat)(w:List D):D->Prop:=fun v=>U w v/\Nd k v
def Kn(k:Nat)(w:List D)(kk:List (Int×D)):Prop:=∀p∈kk,∃v,UN k w v/\p.1=num v/\p.2=kh v
theorem zny{kk:List (Int×D)}{q:Int}{d:D}(h:zbb kk q=some d):(q,d)∈kk:=by
 induction kk with
 |nil=>cases h
 | cons p kk ih=>
   unfold zbb at h;split at h
   · rename_i z;cases h;rw[<-z];exact z1j ..
   · exact z09 _ (ih h)
theorem zr0{kk:List (Int×D)}(nd:(kk.map (·.1)).Nodup){p:Int×D}(h:p∈kk):zbb kk p.1=some p.2:=by
 induction kk with
 |nil=>cases h
 | cons q kk ih=>
   obtain⟨n1,n2⟩:=z2g.mp (by rw[z1g]at nd;exact nd);unfold zbb;rcases z1e.mp h with rfl | h
   · rw[z1t rfl]
   · rw[z10 fun z=>n1 (z1x.mpr ⟨p,h,z.symm⟩)];exact ih n2 h
theorem Kn.put{kk:List (Int×D)}{v:D}(h:Kn k w kk)(hv:UN k w v):Kn k w (zi9 kk (num v) (kh v)):=fun p hp=>by
 unfold zi9 at hp;split at hp
 · obtain⟨q,hq,e⟩:=z1x.mp hp;split at e
   · rename_i z;subst e;exact⟨v,hv,z,rfl⟩
   · subst e;exact h q hq
 · rcases z1p.mp hp with z | z
   · exact h p z
   · rw[z05.mp z];exact⟨v,hv,rfl,rfl⟩
theorem zna{kk:List (Int×D)}{q:Int}{d:D}:(zi9 kk q d).length<=kk.length+1:=by
 unfold zi9;split
 · rw[z1q];omega
 · rw[z03];exact z07 _
def kB:C:=(zw (qv 3 (zk zab (aC (e2s za8 (eV 1) (eV 2)) aN))) (zw (sIf (bE (e2 zno (zl5 (eV 0) (eV 2) (eV 3)) (eV 3))) (qk (eK (.bl false))) je) (ye (eV 0) (eV 2) (eV 3))))
def kE(b x:Nat)(o2 o3:Option D):Ev:=[some (.obj b),some (.obj x),o2,o3]
theorem zlh{kvs:List (Int×D)}(B J:Sto):∀(ks:List Int),(∀q∈ks,∃v,UN k w v/\num v=q/\zbb kvs q=some v)->∀(kk:List (Int×D)) (o2 o3:Option D),Kn k w kk->kk.length+ks.length<10000000 ->
   ∃kk' o2' o3',yc 2 kB (ks.map D.int) (kE B.length (B.length+1+J.length) o2 o3) (B++.dct kk::(J++[.fdc kvs]))=some (.nx (kE B.length (B.length+1+J.length) o2' o3'),B++.dct kk'::(J++[.fdc kvs]))/\Kn k w kk'/\kk'.length<=kk.length+ks.length
 | [],_,kk,o2,o3,hk,_=>⟨kk,o2,o3,rfl,hk,by simp⟩
 | q::ks,hq,kk,o2,o3,hk,hl=>by
   have hz:sizeLine=16777216:=z14;rw[List.length_cons]at hl;obtain⟨v,hv,hn,hg⟩:=hq q (z1j ..);have hd:(B++.dct kk::(J++[.fdc kvs]))[B.length]? = some (.dct kk):=zp4 B _ _;have hf:(B++.dct kk::(J++[.fdc kvs]))[B.length+1+J.length]? = some (.fdc kvs):=(zze B _ _ J.length).trans (by simp);have pl:=zna (kk:=kk) (q:=q) (d:=kh v);have kp:Kn k w (zi9 kk q (kh v)):=hn▸hk.put hv;obtain⟨kk',o2',o3',ih,k',l'⟩:=zlh (kvs:=kvs) B J ks (fun z hz=>hq z (z09 _ hz)) (zi9 kk q (kh v)) (some (.int q)) (some (kh v)) kp (by omega);have g1:e2s za8 (eV 1) (eV 2) (kE B.length (B.length+1+J.length) (some (.int q)) o3) (B++.dct kk::(J++[.fdc kvs]))=some (v,B++.dct kk::(J++[.fdc kvs])):=qj (e_v rfl) (e_v rfl) (by simp only[za8,hf,hg]);have g2:zl5 (eV 0) (eV 2) (eV 3) (kE B.length (B.length+1+J.length) (some (.int q)) (some (kh v))) (B++.dct kk::(J++[.fdc kvs]))=some (kh v,B++.dct kk::(J++[.fdc kvs])):=by
     have e:(zbb kk q).getD (kh v)=kh v:=by
       cases gq:zbb kk q with
       |none=>rfl
       | some d=>
         obtain⟨v',hv',e1,e2⟩:=hk _ (zny gq);have:v'=v:=zxc hv'.1 hv.1 (e1.symm.trans hn.symm);subst this;exact e2
     have a0:eV 0 (kE B.length (B.length+1+J.length) (some (.int q)) (some (kh v))) (B++.dct kk::(J++[.fdc kvs]))=some (.obj B.length,B++.dct kk::(J++[.fdc kvs])):=e_v rfl;have a2:eV 2 (kE B.length (B.length+1+J.length) (some (.int q)) (some (kh v))) (B++.dct kk::(J++[.fdc kvs]))=some (.int q,B++.dct kk::(J++[.fdc kvs])):=e_v rfl;have a3:eV 3 (kE B.length (B.length+1+J.length) (some (.int q)) (some (kh v))) (B++.dct kk::(J++[.fdc kvs]))=some (kh v,B++.dct kk::(J++[.fdc kvs])):=e_v rfl;simp only[zl5,a0,a2,a3,Option.bind_some,hd,e]
   have g3:ye (eV 0) (eV 2) (eV 3) (kE B.length (B.length+1+J.length) (some (.int q)) (some (kh v))) (B++.dct kk::(J++[.fdc kvs]))=some (.nx (kE B.length (B.length+1+J.length) (some (.int q)) (some (kh v))),B++.dct (zi9 kk q (kh v))::(J++[.fdc kvs])):=by
     have a0:eV 0 (kE B.length (B.length+1+J.length) (some (.int q)) (some (kh v))) (B++.dct kk::(J++[.fdc kvs]))=some (.obj B.length,B++.dct kk::(J++[.fdc kvs])):=e_v rfl;have a2:eV 2 (kE B.length (B.length+1+J.length) (some (.int q)) (some (kh v))) (B++.dct kk::(J++[.fdc kvs]))=some (.int q,B++.dct kk::(J++[.fdc kvs])):=e_v rfl;have a3:eV 3 (kE B.length (B.length+1+J.length) (some (.int q)) (some (kh v))) (B++.dct kk::(J++[.fdc kvs]))=some (kh v,B++.dct kk::(J++[.fdc kvs])):=e_v rfl;have hk2:kk.length<sizeLine:=by omega
     simp only[ye,a0,a2,a3,Option.bind_some,hd,z1t hk2,zfa]
   refine⟨kk',o2',o3',yi (zh (zo (zg (a_c g1 a_n) (zqa hv.2 _))) (zh (zp (jb (e_2 g2 (e_v rfl) (zx7 (zua hv.2))))) g3)) ih,k',by rw[List.length_cons];omega⟩
theorem zgt{kk kvs:List (Int×D)}(hk:Kn k w kk)(wk:Wk (UN k w) [d] kvs [])(kl:kvs.length<=5000)(hl:kk.length<1000000):∃kk',qi [.obj B.length,.obj (B++.dct kk::J).length] (B++.dct kk::J++[.dct kvs])=some (.bl true,B++.dct kk'::(J++[.fdc kvs]))/\Kn k w kk'/\kk'.length<=kk.length+5000:=by
 have xl:(B++MO.dct kk::J).length=B.length+1+J.length:=by rw[z03,List.length_cons];omega
 obtain⟨kk',o2,o3,lp,k',l'⟩:=zlh (k:=k) (w:=w) (kvs:=kvs) B J (kvs.map (·.1)) (fun q hq=>by
   obtain⟨p,hp,rfl⟩:=z1x.mp hq;obtain⟨e1,e2,_⟩:=wk.ent p hp;exact⟨p.2,e1,e2.symm,zr0 wk.nd hp⟩) kk none none hk (by rw[z1q];omega)
 rw[z1q]at l';refine⟨kk',?_,k',by omega⟩;have fd:zda 2 (eV 1) kB (kE B.length (B++MO.dct kk::J).length none none) (B++.dct kk::J++[.dct kvs])=some (.nx (kE B.length (B.length+1+J.length) o2 o3),B++.dct kk'::(J++[.fdc kvs])):=by refine zl1 (S1:=B++.dct kk::J) (b:=kB) (e_v rfl) ?_;rw[z2r,List.cons_append,xl];exact lp
 exact jl rfl (zh fd (zt e_k))
end Pg
namespace Pg
open PySem L2 F Mt
variable {k:Nat} [Kd k] {d l r t x y:D}{ts lt rt rs fs:List D}{h lh rh i:Nat}{n tm:Int}{S S0 S1 B J:Sto}{ev e:Ev}{P P' Q:D->Prop}{a b new w:List D}{ks os ms:List Int}
theorem zo0(ns:List Int){q:Int}(h0:0<=q)(h1:q<ns.length):∃v:Int,atI (ns.map D.int) q=some (.int v):=by
 have hi:q.toNat<ns.length:=by omega
 have e2:(ns.map D.int)[q.toNat]? = some (.int ns[q.toNat]):=by rw[z1r,z08 hi];rfl
 have e3:=ze1 e2;rw[show((q.toNat:Nat):Int)=q by omega]at e3;exact⟨_,e3⟩
theorem zbu(ns:List Int)(hn:ns.length<=63){q:Int}(h0:0<=q)(h1:q<=1000000):∃m:Int,∀S,zy [.lst (ns.map D.int),.int q] S=some (.int m,S):=by
 have len:∀S:Sto,zfo S [.lst (ns.map D.int)]=some (.int (ns.length:Int)):=fun S=>by simp[zfo]
 by_cases c:q<(ns.length:Int)
 · obtain⟨v,hv⟩:=zo0 ns h0 c;refine⟨v,fun S=>jl rfl (qp (qh (jb (e_2 (e_v rfl) (e_a (a_c (e_v rfl) a_n) (len _)) (show zbp (.int q) (.int (ns.length:Int))=some (.bl true) by simp[zbp,zk2,c]))) (zt (qj (e_v rfl) (e_v rfl) hv))))⟩
 · have first:∀S,sIf (bE (e2 zbp (eV 1) (eA zfo (aC (eV 0) aN)))) (qk (e2s qf (eV 0) (eV 1))) je [some (.lst (ns.map D.int)),some (.int q),none] S=some (.nx [some (.lst (ns.map D.int)),some (.int q),none],S):=fun S=>
     zp (jb (e_2 (e_v rfl) (e_a (a_c (e_v rfl) a_n) (len _)) (show zbp (.int q) (.int (ns.length:Int))=some (.bl false) by simp[zbp,zk2];omega)))
   by_cases z:0<(ns.length:Int)
   · have x0:=z19 (q*7) (show(ns.length:Int)≠0 by omega);have x1:=z11 (q*7) z;obtain⟨v,hv⟩:=zo0 ns x0 x1;have y0:=z19 (v*48271+q*7919) (show(2147483647:Int)≠0 by decide);have y1:=z11 (v*48271+q*7919) (show(0:Int)<2147483647 by decide);refine⟨_,fun S=>jl rfl (zh (first S) (zh (zo (e_2 (e_2 (e_v rfl) e_k (zdo (by decide))) e_k (add_int _ _))) (zh (qh (jb (e_2 (e_a (a_c (e_v rfl) a_n) (len _)) e_k (show zck (.int (ns.length:Int)) (.int 0)=some (.bl true) by simp[zck,zk2];omega)))
       (zo (e_2 (e_2 (e_2 (qj (e_v rfl) (e_2 (e_2 (e_v rfl) e_k (zdo (by decide))) (e_a (a_c (e_v rfl) a_n) (len _)) (za3 z)) hv) e_k (zdo (by decide))) (e_2 (e_v rfl) e_k (zdo (by decide))) (add_int _ _)) e_k (za3 (by decide))))) (zt (e_2 (e_2 (e_v rfl) (e_v rfl) (zai (by omega))) e_k (za3 (by decide)))))))⟩
   · have hb:-(2^64)<q*7919+5/\q*7919+5<2^64:=by omega
     refine⟨_,fun S=>jl rfl (zh (first S) (zh (zo (e_2 (e_2 (e_v rfl) e_k (zdo (by decide))) e_k (add_int _ _))) (zh (zp (jb (e_2 (e_a (a_c (e_v rfl) a_n) (len _)) e_k (show zck (.int (ns.length:Int)) (.int 0)=some (.bl false) from(by show some (D.bl (decide ((0:Int)<(ns.length:Int))))=_;rw[z1b z]))))) (zt (e_2 (e_2 (e_v rfl) (e_v rfl) (zai hb)) e_k (za3 (by decide)))))))⟩
theorem zb7(c:Int){q:Int}(h0:0<=q)(h1:q<=1000000):∃m:Int,0<=m/\m<2147483587/\∀S,z9 [.int c,.int q] S=some (.int m,S):=by have x0:=z19 c (show(2147483647:Int)≠0 by decide);have x1:=z11 c (show(0:Int)<2147483647 by decide);have y0:=z19 ((c%2147483647+1)*(q*q+48271)) (show(2147483629:Int)≠0 by decide);have y1:=z11 ((c%2147483647+1)*(q*q+48271)) (show(0:Int)<2147483629 by decide);refine⟨_,z19 _ (by decide),z11 _ (by decide),fun S=>jl rfl (zh (zo (e_2 (e_2 (e_2 (e_2 (e_v rfl) e_k (za3 (by decide))) e_k (add_int _ _)) (e_2 (e_2 (e_v rfl) (e_v rfl) (zai (by omega))) e_k (add_int _ _)) (zai (by omega))) e_k (za3 (by decide)))) (zt (e_2 (e_2 (e_v rfl) (e_2 (e_v rfl) (e_v rfl) (add_int _ _)) (zai (by omega))) e_k (za3 (by decide)))))⟩
theorem zhe{g:E}{fr:Ev}{ys ds:List D}(h:g (some x::fr) S=some (y,S))(ih:zep ziy g fr ds S=some (ys,S)):zep ziy g fr (x::ds) S=some (y::ys,S):=by unfold zep;simp only[ziy,Option.bind_some,z4e,h,ih]
theorem zxt{e:E}{n:Int}(h0:0<=n)(h1:n<=2000)(he:e ev S=some (.int n,S)):zmu e ev S=some ((qo 0 n.toNat,none),S):=by
 have hz:sizeLine=16777216:=z14;have c:-(2^62)<=n/\n<2^62/\n<=(sizeLine:Int):=⟨by omega,by omega,by omega⟩
 simp only[zmu,he,Option.bind_some];rw[z1t c]
theorem zsw:(Str.ofString "abcdefgh").cps.toList.length=8:=by decide +kernel
theorem zwt:(Str.ofString "abcdefgh").length<=sizeLine:=by decide +kernel
theorem zlb(c i:Int)(h0:0<=i)(h1:i<100):∃z,∀S:Sto,(e2s qf (eK (.str (Str.ofString "abcdefgh"))) (e2 q9 (zk z9 (aC (eV 1) (aC (eV 0) aN))) (eK (.int 8)))) [some (.int i),some (.int c)] S=some (.str ⟨#[z]⟩,S):=by
 obtain⟨m,_,_,hm⟩:=zb7 c h0 (show i<=1000000 by omega);have x0:=z19 m (show(8:Int)≠0 by decide);have x1:=z11 m (show(0:Int)<8 by decide);have md:q9 (.int m) (.int 8)=some (.int (m%8)):=za3 (by decide);generalize m%8=z at x0 x1 md;have hat:∃c,atI (Str.ofString "abcdefgh").cps.toList z=some c:=by
   have hz:z.toNat<(Str.ofString "abcdefgh").cps.toList.length:=by rw[zsw];omega
   have e3:=ze1 (z08 hz);rw[show((z.toNat:Nat):Int)=z by omega]at e3;exact⟨_,e3⟩
 obtain⟨y,hy⟩:=hat;refine⟨y,fun S=>qj e_k (e_2 (zg (a_c (e_v rfl) (a_c (e_v rfl) a_n)) (hm _)) e_k md) ?_⟩;unfold qf;simp only[z1t zwt,hy];rfl
theorem zl9(c:Int):∀(ds:List D),(∀x∈ds,∃i:Int,x=.int i/\0<=i/\i<100)->∃ys:List Str,ys.length=ds.length/\(∀y∈ys,y.length=1) /\
   ∀S,zep ziy (e2s qf (eK (.str (Str.ofString "abcdefgh"))) (e2 q9 (zk z9 (aC (eV 1) (aC (eV 0) aN))) (eK (.int 8)))) [some (.int c)] ds S=some (ys.map D.str,S)
 | [],_=>⟨[],rfl,by simp,fun S=>rfl⟩
 | x::ds,hx=>by
   obtain⟨i,rfl,h0,h1⟩:=hx x (by simp);obtain⟨ys,hl,h1',ih⟩:=zl9 c ds fun y hy=>hx y (z09 _ hy);obtain⟨z,hc⟩:=zlb c i h0 h1;refine⟨⟨#[z]⟩::ys,by simp[hl],fun y hy=>?_,fun S=>?_⟩
   · rcases z1e.mp hy with rfl | hy
     · rfl
     · exact h1' y hy
   · exact zhe (hc S) (ih S)
theorem zqc(c:Int):∃z:Str,z.length<=8/\∀S (a b:Option D),zsi (Str.ofString "") (aC (yu [1] (zmu (e2 qm (eK (.int 1)) (e2 q9 (e2 yb (eV 1) (eK (.int 2))) (eK (.int 3))))) ziy (e2s qf (eK (.str (Str.ofString "abcdefgh"))) (e2 q9 (zk z9 (aC (eV 1) (aC (eV 0) aN))) (eK (.int 8))))) aN)
   [a,some (.int c),b] S=some (.str z,S):=by
 have x0:=z19 (c/2) (show(3:Int)≠0 by decide);have x1:=z11 (c/2) (show(0:Int)<3 by decide);have md:q9 (.int (c/2)) (.int 3)=some (.int (c/2%3)):=za3 (by decide);generalize c/2%3=n at x0 x1 md;have hz:sizeLine=16777216:=z14;obtain⟨ys,hl,h1,hc⟩:=zl9 c (qo 0 (1+n).toNat) (zgr (by omega));have hl':ys.length=(1+n).toNat:=by rw[hl];simp[qo]
 have hs:=zhy ys h1;have hj:(ys.map (·.length)).sum+ys.length*(Str.ofString "").length<=16777216:=by rw[hs,show(Str.ofString "").length=0 from rfl];omega
 refine⟨Txt.join (Str.ofString "") ys,?_,fun S a b=>?_⟩
 · rw[PySem.W.KT.join_ones ys h1];omega
 · have cnd:-(2^62)<=1+n/\1+n<2^62/\1+n<=(sizeLine:Int):=by omega
   have ev:List.map (zg7 [a,some (.int c),b]) [1]=[some (.int c)]:=rfl;have A:e2 qm (eK (.int 1)) (e2 q9 (e2 yb (eV 1) (eK (.int 2))) (eK (.int 3))) [a,some (.int c),b] S=some (.int (1+n),S):=e_2 e_k (e_2 (e_2 (e_v rfl) e_k (zen (by decide))) e_k md) (add_int _ _);have cmp:yu [1] (zmu (e2 qm (eK (.int 1)) (e2 q9 (e2 yb (eV 1) (eK (.int 2))) (eK (.int 3))))) ziy (e2s qf (eK (.str (Str.ofString "abcdefgh"))) (e2 q9 (zk z9 (aC (eV 1) (aC (eV 0) aN))) (eK (.int 8)))) [a,some (.int c),b] S=some (.lst (ys.map D.str),S):=by unfold yu;rw[zxt (by omega) (by omega) A];simp only[Option.bind_some,zbe,ev,hc,Option.map_some]
   refine e_a (a_c cmp a_n) ?_;simp only[znv,zh0,Option.bind_some,z1t hj]
def kk(w:Nat):Nat:=if w=0 then 0 else 2
theorem zy6(w:Nat)(hw:w<2)(S:Sto):zy [.lst [.int (w:Int)],.int 0] S=some (.int w,S):=by
 have:w=0\/w=1:=by omega
 rcases this with rfl | rfl<;>rfl
theorem zm1(w:Nat)(hw:w<2)(c:Int):∃d,Thing (kk w) d/\∀S,qu [.lst [.int (w:Int)],.int c] S=some (d,S):=by
 obtain⟨z,hz8,hz⟩:=zqc c;have first:∀S,qv 2 (e2 q9 (zk zy (aC (eV 0) (aC (eK (.int 0)) aN))) (eK (.int 4))) [some (.lst [.int (w:Int)]),some (.int c),none] S=some (.nx [some (.lst [.int (w:Int)]),some (.int c),some (.int (w:Int))],S):=fun S=>
   zo (e_2 (zg (a_c (e_v rfl) (a_c e_k a_n)) (zy6 w hw S)) e_k (by rw[za3 (by decide)];congr 2;omega))
 have n2:∀S,sIf (bE (e2 zdc (eV 2) (eK (.int 2)))) (qk (zap (aC (e2 q9 (zk z9 (aC (eV 1) (aC (eK (.int 1)) aN))) (eK (.int 1000003))) (aC (e2 q9 (zk z9 (aC (eV 1) (aC (eK (.int 2)) aN))) (eK (.int 1000003))) aN)))) je [some (.lst [.int (w:Int)]),some (.int c),some (.int (w:Int))] S=some (.nx [some (.lst [.int (w:Int)]),some (.int c),some (.int (w:Int))],S):=fun S=>
   zp (jb (e_2 (e_v rfl) e_k (by rw[zds];have:((w:Int)==2)=false:=beq_false_of_ne (by omega);rw[this])))
 by_cases h0:w=0
 · subst h0;by_cases hp:c%2=0
   · exact⟨.int (c/2*982451653%1000000000000000000007-500),.inl ⟨_,rfl⟩,fun S=>jl rfl (zh (first S) (zh (n2 S) (qp (qh (zb3 (jb (e_2 (e_v rfl) e_k rfl)) (jb (e_2 (e_2 (e_v rfl) e_k (za3 (by decide))) e_k (by rw[zds];simp[hp])))) (zt (e_2 (e_2 (e_2 (e_2 (e_v rfl) e_k (zen (by decide))) e_k (zdo (by decide))) e_k (za3 (by decide))) e_k (sub_int _ _)))))))⟩
   · exact⟨.str z,.inr (.inl ⟨z,rfl,hz8⟩),fun S=>jl rfl (zh (first S) (zh (n2 S) (zh (zp (zb3 (jb (e_2 (e_v rfl) e_k rfl)) (jb (e_2 (e_2 (e_v rfl) e_k (za3 (by decide))) e_k (by rw[zds];simp[hp]))))) (zt (hz _ _ _)))))⟩
 · have h1:w=1:=by omega
   subst h1;exact⟨.str z,⟨z,rfl,hz8⟩,fun S=>jl rfl (zh (first S) (zh (n2 S) (zh (zp (zix (jb (e_2 (e_v rfl) e_k rfl)))) (zt (hz _ _ _)))))⟩
theorem zl8{T:D}(hth:∀c:Int,∃d,Thing k d/\∀S,qu [T,.int c] S=some (d,S))(c:Int):∀(js:List D),(∀x∈js,∃i:Int,x=.int i/\0<=i/\i<10000)->∃ts:List D,ts.length=js.length/\(∀x∈ts,Thing k x) /\
   ∀S,zep ziy (zk qu (aC (eV 2) (aC (zk z9 (aC (eV 1) (aC (e2 qm (eK (.int 10)) (eV 0)) aN))) aN))) [some (.int c),some T] js S=some (ts,S)
 | [],_=>⟨[],rfl,fun x hx=>(by cases hx),fun S=>rfl⟩
 | j::js,hj=>by obtain⟨i,rfl,i0,i1⟩:=hj j (z1j ..);obtain⟨ts,e1,e2',e3⟩:=zl8 hth c js fun x hx=>hj x (z09 _ hx);obtain⟨m,_,_,hm⟩:=zb7 c (q:=10+i) (by omega) (by omega);obtain⟨d,td,cd⟩:=hth m;refine⟨d::ts,by simp[e1],fun x hx=>(z1e.mp hx).elim (fun e=>e▸td) (e2' x),fun S=>?_⟩;exact zhe (zg (a_c (e_v rfl) (a_c (zg (a_c (e_v rfl) (a_c (e_2 e_k (e_v rfl) (add_int _ _)) a_n)) (hm S)) a_n)) (cd S)) (e3 S)
theorem zj4{T:D}(hth:∀c:Int,∃d,Thing k d/\∀S,qu [T,.int c] S=some (d,S))(c:Int){M:Nat}(hM:M<=1000):∃ts:List D,ts.length<=M/\(∀x∈ts,Thing k x)/\∀S,jr [T,.int c,.int M] S=some (.lst ts,S):=by obtain⟨q,hq,cq⟩:=zd2 c M;obtain⟨ts,e1,e2',e3⟩:=zl8 hth c (qo 0 q) (rng (by omega));rw[zgp]at e1;refine⟨ts,by omega,e2',fun S=>jl rfl (zt ?_)⟩;unfold yu;rw[zxt (n:=(q:Int)) (by omega) (by omega) (e_2 (e_v rfl) (e_2 (e_v rfl) e_k (add_int _ _)) cq)];simp only[Option.bind_some,zbe,Int.toNat_natCast];exact(z2f (fun z=>Option.map (fun q:List D×Sto=>(D.lst q.1,q.2)) z) (e3 S)).trans rfl
end Pg
namespace Pg
open PySem L2 F Mt
variable {k:Nat} [Kd k] {d l r t x y T:D}{ts lt rt rs fs K:List D}{h lh rh i j Bd:Nat}{n tm:Int}{S S0 S1 B J:Sto}{ev e:Ev}{P P' Q:D->Prop}{a b new w:List D}{ks os ms:List Int}
theorem zyk{q:Nat}(hs:S[j]? = some (.lst K))(hq:K[q]? = some x):qf S (.obj j) (.int (q:Int))=some x:=by simp only[qf,hs];exact ze1 hq
theorem zu2(hs:S[j]? = some (.lst K)):zfo S [.obj j]=some (.int K.length):=by simp only[zfo,hs]
theorem zig(m:Mk k d ts h)(S:Sto):xj [d] S=some (.int ts.length,S):=by
 cases m with
 |non=>rfl
 | node _ _ _ _ _=>
   rw[y4,z03,List.length_cons];refine(show _=some (D.int ((_+1+_:Nat):Int),S)from rfl).trans ?_;congr 3;omega
theorem zyy(w c:Int):zdc (.int w) (.int c)=some (.bl (decide (w=c))):=by rw[zds];rfl
theorem zwz(w c:Int):zbp (.int w) (.int c)=some (.bl (decide (w<c))):=rfl
theorem zzz(w c:Int):zck (.int w) (.int c)=some (.bl (decide (c<w))):=rfl
theorem zro{f:E}(h:f ev S=some (.tup ts,S1)):zis (aC f aN) ev S=some (.lst ts,S1):=by simp[zis,aC,aN,h]
def Kp(k:Nat)(w:List D)(Bd:Nat)(K:List D):Prop:=∀d∈K,∃ts h,Mk k d ts h/\ts.length<=Bd/\All (U w) d
def Ht(rs:List D)(mo:Nat):Prop:=∀x∈rs,∀hh:Nat,(∀S,jt [x] S=some (.int hh,S))->hh<=mo
structure Dx (k:Nat) (w:List D) (Bd:Nat) (S:Sto) (n:Int) (rs fs:List D) (tD:D) (new:List D) (S':Sto):Prop where
 wt:Wt k 1 S n new S'
 rl:rs.length<=2
 fl:fs.length<=2
 rk:Kp k w Bd rs
 fk:∀d∈fs,∃ts h,Mk k d ts h/\ts.length<=Bd+1/\All (Ac (UI w rs) n new) d
 tm:tD=.non\/∃tm:Int,tD=.int tm/\0<=tm/\tm<1000/\∀mo:Nat,Ht rs mo->(new.length:Int)<=tm*((mo:Int)+2)
theorem zlr{mo:Nat}(m:Mk k d ts h)(hd:d∈rs)(H:Ht rs mo):h<=mo:=H d hd h fun S=>zcu m S
theorem zfz{S':Sto}{tD d':D}{ts':List D}{h':Nat}(m:Mk k d ts h)(hl:ts.length<=Bd)(al:All (U w) d)(q:Res k 1 S n (UI w [d]) ts' d' h' new S')(hb:ts'.length<=Bd+1)(ht:tD=.non\/∃tm:Int,tD=.int tm/\0<=tm/\tm<1000/\(new.length:Int)<=tm*((h:Int)+2)):Dx k w Bd S n [d] [d'] tD new S' :=
 ⟨q.wt,by simp,by simp,fun x hx=>by rw[z05.mp hx];exact⟨ts,h,m,hl,al⟩,fun x hx=>by rw[z05.mp hx];exact⟨ts',h',q.mm,hb,q.all⟩,ht.imp id fun⟨tm,e,t0,t1,q⟩=>⟨tm,e,t0,t1,fun mo H=>by
   have:=zlr m (z05.mpr rfl) H;exact Int.le_trans q (Int.mul_le_mul_of_nonneg_left (by omega) t0)⟩⟩
def dE(T:D)(j:Nat)(v:Nat)(c:Int)(one oth:D)(wh p:Nat)(o9:Option D):Ev:=[some T,some (.obj 1),some (.obj j),some (.int (v:Int)),some (.int c),some one,some oth,some (.int (wh:Int)),some (.int (p:Int)),o9]
theorem zsj(hw:S[1]? = some (wd (x6 k) n))(hK:Kp k w Bd K)(hne:K≠[])(hj:S[j]? = some (.lst K))(hB:800<=Bd)(hB2:Bd<1900)(hth:∀c:Int,∃d,Thing k d/\∀S,qu [T,.int c] S=some (d,S))(v:Nat)(c0:Int) :
   ∃rs fs tD new S',xy [T,.obj 1,.obj j,.int (v:Int),.int c0] S=some (.lst [.lst rs,.lst fs,tD],S')/\Dx k w Bd S n rs fs tD new S':=by
 have kl:0<K.length:=z2d.mpr hne;obtain⟨q1,hq1,eq1⟩:=zba c0 kl;obtain⟨q2,hq2,eq2⟩:=zba (c0/64) kl;have g1:K[q1]? = some K[q1]:=z08 hq1;have g2:K[q2]? = some K[q2]:=z08 hq2;obtain⟨ts,h,m,hl,al⟩:=hK _ (z3w hq1);obtain⟨us,h2,m2,hl2,al2⟩:=hK _ (z3w hq2);generalize K[q1]=one at *;generalize K[q2]=oth at *;generalize ec:c0/4096=c;obtain⟨p,hp,ep⟩:=zd2 c ts.length;obtain⟨th,hth1,hth2⟩:=hth c;have ai:All (UI w [one]) one:=zdu m al (z05.mpr rfl);have hl':ts.length<=2000:=by omega
 have pre:∀{rest:C}{o:Out}{S2:Sto},rest (dE T j v c one oth ts.length p none) S=some (o,S2)->(zw (qv 5 (e2s qf (eV 2) (e2 q9 (eV 4) (eA zfo (aC (eV 2) aN))))) (zw (qv 6 (e2s qf (eV 2) (e2 q9 (e2 yb (eV 4) (eK (.int 64))) (eA zfo (aC (eV 2) aN))))) (zw (qv 7 (zk xj (aC (eV 5) aN))) (zw (qv 4 (e2 yb (eV 4) (eK (.int 4096)))) (zw (qv 8 (e2 q9 (eV 4) (e2 qm (eV 7) (eK (.int 1))))) rest))))) [some T,some (.obj 1),some (.obj j),some (.int (v:Int)),some (.int c0),none,none,none,none,none] S=some (o,S2):=fun hr=>
   zh (zo (qj (e_v rfl) (e_2 (e_v rfl) (e_a (a_c (e_v rfl) a_n) (zu2 hj)) eq1) (zyk hj g1))) (zh (zo (qj (e_v rfl) (e_2 (e_2 (e_v rfl) e_k (zen (by decide))) (e_a (a_c (e_v rfl) a_n) (zu2 hj)) eq2) (zyk hj g2))) (zh (zo (zg (a_c (e_v rfl) a_n) (zig m S))) (zh (zo (e_2 (e_v rfl) e_k ((zen (by decide)).trans (by rw[ec])))) (zh (zo (e_2 (e_v rfl) (e_2 (e_v rfl) e_k (add_int _ _)) ep)) hr))))
 have tl:∀(z:Int) {o9:Option D},bE (e2 zbp (eV 3) (eK (.int z))) (dE T j v c one oth ts.length p o9) S=some (decide ((v:Int)<z),S):=fun z o9=>jb (e_2 (e_v rfl) e_k (zwz _ _));have tg:bE (e2 zck (eV 7) (eK (.int 0))) (dE T j v c one oth ts.length p none) S=some (decide ((0:Int)<(ts.length:Int)),S):=jb (e_2 (e_v rfl) e_k (zzz _ _));have nz:(Nat.ble 1 sizeLine)=true:=rfl;by_cases v2:(v:Int)<2
 · obtain⟨d',h',new,S1,cc,rr,few⟩:=zo4 (k:=k) (p:=p) hw m (by omega) hp hth1 ai;exact⟨_,_,_,_,_,jl rfl (pre (qp (qh ((tl 2).trans (by rw[z1c v2])) (zt (xz (a_c (xz (a_c (e_v rfl) a_n) (z04 rfl)) (a_c (xz (a_c (zg (a_c (e_v rfl) (a_c (e_v rfl) (a_c (e_v rfl) (a_c (zg (a_c (e_v rfl) (a_c (e_v rfl) a_n)) (hth2 _)) a_n)))) cc) a_n) (z04 rfl)) (a_c e_k a_n))) (z04 rfl)))))),zfz m hl al rr (by rw[z03,List.length_cons,z1n,z2c];omega) (.inr ⟨24,rfl,by decide,by decide,by omega⟩)⟩
 have n2:=zp (a:=qk (ya (aC (ya (aC (eV 5) aN)) (aC (ya (aC (zk zg1 (aC (eV 1) (aC (eV 5) (aC (eV 8) (aC (zk qu (aC (eV 0) (aC (eV 4) aN))) aN))))) aN)) (aC (eK (.int 24)) aN))))) ((tl 2 (o9:=none)).trans (by rw[z1b v2]));by_cases v4:(v:Int)<4/\(0:Int)<(ts.length:Int)
 · obtain⟨u,hu,eu⟩:=zba c (c:=ts.length) (by omega);obtain⟨d',h',new,S1,cc,rr,few⟩:=zpc (k:=k) (p:=u) hw m hl' hu ai;exact⟨_,_,_,_,_,jl rfl (pre (zh n2 (qp (qh (zb3 ((tl 4).trans (by rw[z1c v4.1])) (tg.trans (by rw[z1c v4.2]))) (zt (xz (a_c (xz (a_c (e_v rfl) a_n) (z04 rfl)) (a_c (xz (a_c (zg (a_c (e_v rfl) (a_c (e_v rfl) (a_c (e_2 (e_v rfl) (e_v rfl) eu) a_n))) cc) a_n) (z04 rfl)) (a_c e_k a_n))) (z04 rfl))))))),zfz m hl al rr (by rw[z2t hu];omega) (.inr ⟨24,rfl,by decide,by decide,by omega⟩)⟩
 have and_f:∀z:Int,¬ ((v:Int)<z/\(0:Int)<(ts.length:Int))->zho (bE (e2 zbp (eV 3) (eK (.int z)))) (bE (e2 zck (eV 7) (eK (.int 0)))) (dE T j v c one oth ts.length p none) S=some (false,S):=fun z hz=>by
   by_cases q:(v:Int)<z
   · exact zb3 ((tl z).trans (by rw[z1c q])) (tg.trans (by rw[z1b fun y=>hz ⟨q,y⟩]))
   · exact zix ((tl z).trans (by rw[z1b q]))
 by_cases v6:(v:Int)<6/\(0:Int)<(ts.length:Int)
 · obtain⟨u,hu,eu⟩:=zba c (c:=ts.length) (by omega);obtain⟨d',new,S1,cc,rr,few⟩:=zdi (k:=k) (p:=u) hw m hl' hu hth1 ai;exact⟨_,_,_,_,_,jl rfl (pre (zh n2 (zh (zp (and_f 4 v4)) (qp (qh (zb3 ((tl 6).trans (by rw[z1c v6.1])) (tg.trans (by rw[z1c v6.2]))) (zt (xz (a_c (xz (a_c (e_v rfl) a_n) (z04 rfl)) (a_c (xz (a_c (zg (a_c (e_v rfl) (a_c (e_v rfl) (a_c (e_2 (e_v rfl) (e_v rfl) eu) (a_c (zg (a_c (e_v rfl) (a_c (e_v rfl) a_n)) (hth2 _)) a_n)))) cc) a_n) (z04 rfl)) (a_c e_k a_n))) (z04 rfl)))))))),zfz m hl al rr (by rw[z2s];omega) (.inr ⟨24,rfl,by decide,by decide,by omega⟩)⟩
 by_cases v8:(v:Int)<8
 · obtain⟨x1,x2,xh,yh,new,S1,cc,u⟩:=zwb (k:=k) (p:=p) hw m hl' hp ai;have b1:=u.few;have b2:=u.hx;have b3:=u.hy;refine⟨[one],[x1,x2],.int 60,new,S1,jl rfl (pre (zh n2 (zh (zp (and_f 4 v4)) (zh (zp (and_f 6 v6)) (qp (qh ((tl 8).trans (by rw[z1c v8])) (zt (xz (a_c (xz (a_c (e_v rfl) a_n) (z04 rfl)) (a_c (zro (zg (a_c (e_v rfl) (a_c (e_v rfl) (a_c (e_v rfl) a_n))) cc)) (a_c e_k a_n))) (z04 rfl))))))))),u.wt,by simp,by simp,fun x hx=>by rw[z05.mp hx];exact⟨ts,h,m,hl,al⟩,fun x hx=>?_,.inr ⟨60,rfl,by decide,by decide,fun mo H=>?_⟩⟩
   · rcases z1e.mp hx with rfl | hx
     · exact⟨_,_,u.mx,by rw[z1n];omega,u.ax⟩
     · rw[z05.mp hx];exact⟨_,_,u.my,by rw[z2c];omega,u.ay⟩
   · have:=zlr m (z05.mpr rfl) H;omega
 obtain⟨e9,he9,ee9⟩:=zd2 (c/1024) (ts.length-p);have e9':q9 (.int (c/1024)) (.int ((ts.length:Int)-(p:Int)+1))=some (.int e9):=by rw[show(ts.length:Int)-(p:Int)+1=((ts.length-p:Nat):Int)+1 by omega];exact ee9
 have hse:p<=p+e9:=by omega
 have hel:p+e9<=ts.length:=by omega
 have s9:qv 9 (e2 qm (eV 8) (e2 q9 (e2 yb (eV 4) (eK (.int 1024))) (e2 qm (e2 y6 (eV 7) (eV 8)) (eK (.int 1))))) (dE T j v c one oth ts.length p none) S=some (.nx (dE T j v c one oth ts.length p (some (.int ((p+e9:Nat):Int)))),S):=zo (e_2 (e_v rfl) (e_2 (e_2 (e_v rfl) e_k (zen (by decide))) (e_2 (e_2 (e_v rfl) (e_v rfl) (sub_int _ _)) e_k (add_int _ _)) e9') (add_int _ _));by_cases v9:(v:Int)=8
 · obtain⟨d',h',new,S1,cc,rr⟩:=zrb (k:=k) (s:=p) (e:=p+e9) hw m hl' hse hel ai;exact⟨_,_,_,_,_,jl rfl (pre (zh n2 (zh (zp (and_f 4 v4)) (zh (zp (and_f 6 v6)) (zh (zp ((tl 8).trans (by rw[z1b v8]))) (zh s9 (qp (qh (jb (e_2 (e_v rfl) e_k ((zyy _ _).trans (by rw[z1c v9])))) (zt (xz (a_c (xz (a_c (e_v rfl) a_n) (z04 rfl)) (a_c (xz (a_c (zg (a_c (e_v rfl) (a_c (e_v rfl) (a_c (e_v rfl) (a_c (e_v rfl) a_n)))) cc) a_n) (z04 rfl)) (a_c e_k a_n))) (z04 rfl))))))))))),zfz m hl al rr (by rw[z2c,z1n];omega) (.inl rfl)⟩
 have n9:sIf (bE (e2 zdc (eV 3) (eK (.int 8)))) (qk (ya (aC (ya (aC (eV 5) aN)) (aC (ya (aC (zk zio (aC (eV 1) (aC (eV 5) (aC (eV 8) (aC (eV 9) aN))))) aN)) (aC (eK .non) aN))))) je (dE T j v c one oth ts.length p (some (.int ((p+e9:Nat):Int)))) S=some (.nx (dE T j v c one oth ts.length p (some (.int ((p+e9:Nat):Int)))),S):=zp (jb (e_2 (e_v rfl) e_k ((zyy _ _).trans (by rw[z1b v9]))));have tz:bE (e2 zck (e2 qm (eV 7) (zk xj (aC (eV 6) aN))) (eK (.int 800))) (dE T j v c one oth ts.length p (some (.int ((p+e9:Nat):Int)))) S=some (decide ((800:Int)<(ts.length:Int)+(us.length:Int)),S):=jb (e_2 (e_2 (e_v rfl) (zg (a_c (e_v rfl) a_n) (zig m2 S)) (add_int _ _)) e_k (zzz _ _));by_cases v10:(v:Int)<11\/(800:Int)<(ts.length:Int)+(us.length:Int)
 · obtain⟨d',h',new,S1,cc,rr⟩:=zc9 (k:=k) (s:=p) (e:=p+e9) hw m hl' hse hel ai;have bt:bOr (bE (e2 zbp (eV 3) (eK (.int 11)))) (bE (e2 zck (e2 qm (eV 7) (zk xj (aC (eV 6) aN))) (eK (.int 800)))) (dE T j v c one oth ts.length p (some (.int ((p+e9:Nat):Int)))) S=some (true,S):=by
     by_cases q:(v:Int)<11
     · exact zzb ((tl 11).trans (by rw[z1c q]))
     · exact zwo ((tl 11).trans (by rw[z1b q])) (tz.trans (by rw[z1c (v10.resolve_left q)]))
   exact⟨_,_,_,_,_,jl rfl (pre (zh n2 (zh (zp (and_f 4 v4)) (zh (zp (and_f 6 v6)) (zh (zp ((tl 8).trans (by rw[z1b v8]))) (zh s9 (zh n9 (qp (qh bt (zt (xz (a_c (xz (a_c (e_v rfl) a_n) (z04 rfl)) (a_c (xz (a_c (zg (a_c (e_v rfl) (a_c (e_v rfl) (a_c (e_v rfl) (a_c (e_v rfl) a_n)))) cc) a_n) (z04 rfl)) (a_c e_k a_n))) (z04 rfl)))))))))))),zfz m hl al rr (by rw[zmz hse hel];omega) (.inl rfl)⟩
 have v11:¬ (v:Int)<11:=fun z=>v10 (.inl z);have v12:¬ (800:Int)<(ts.length:Int)+(us.length:Int):=fun z=>v10 (.inr z);have a1:All (UI w [one,oth]) one:=zdu m al (by simp);have a2:All (UI w [one,oth]) oth:=zdu m2 al2 (by simp);obtain⟨d',h',new,S1,cc,rr,few⟩:=zjd (k:=k) hw m m2 (by omega) a1 a2;refine⟨[one,oth],[d'],.int 24,new,S1,jl rfl (pre (zh n2 (zh (zp (and_f 4 v4)) (zh (zp (and_f 6 v6)) (zh (zp ((tl 8).trans (by rw[z1b v8]))) (zh s9 (zh n9 (zh (zp (zwo ((tl 11).trans (by rw[z1b v11])) (tz.trans (by rw[z1b v12])))) (zt (xz (a_c (xz (a_c (e_v rfl) (a_c (e_v rfl) a_n)) (z04 rfl)) (a_c (xz (a_c (zg (a_c (e_v rfl) (a_c (e_v rfl) (a_c (e_v rfl) a_n))) cc) a_n) (z04 rfl)) (a_c e_k a_n))) (z04 rfl))))))))))),rr.wt,by simp,by simp,fun x hx=>?_,fun x hx=>?_,.inr ⟨24,rfl,by decide,by decide,fun mo H=>?_⟩⟩
 · rcases z1e.mp hx with rfl | hx
   · exact⟨ts,h,m,hl,al⟩
   · rw[z05.mp hx];exact⟨us,h2,m2,hl2,al2⟩
 · rw[z05.mp hx];exact⟨_,_,rr.mm,by rw[z03];omega,rr.all⟩
 · have x1:=zlr (rs:=[one,oth]) m (by simp) H;have x2:=zlr (rs:=[one,oth]) m2 (by simp) H;omega
end Pg
namespace Pg
open PySem L2 F Mt
structure Sw (T:D->Prop) (lt:D->D->Bool):Prop where
 irr:∀x,T x->lt x x=false
 tr:∀x y z,T x->T y->T z->lt x y=true->lt y z=true->lt x z=true
 co:∀x y z,T x->T y->T z->lt x z=true->lt x y=true\/lt y z=true
section
variable {T:D->Prop}{lt:D->D->Bool}
def alk(lt:D->D->Bool)(x y:D):Prop:=lt x y=false/\lt y x=false
def Srt(lt:D->D->Bool)(l:List D):Prop:=l.Pairwise fun x y=>lt x y=true
def Al(T:D->Prop)(l:List D):Prop:=∀x∈l,T x
theorem Al.tail{x:D}{l:List D}(h:Al T (x::l)):Al T l:=fun y hy=>h y (z09 _ hy)
theorem Al.head{x:D}{l:List D}(h:Al T (x::l)):T x:=h x (z1j ..)
open Classical in
def hs(lt:D->D->Bool)(l:List D)(x:D):Bool:=decide (∃y∈l,alk lt y x)
open Classical in
theorem hs_iff{l:List D}{x:D}:hs lt l x=true↔∃y∈l,alk lt y x:=by unfold hs;exact decide_eq_true_iff
def cb(lt:D->D->Bool)(l:List D)(x:D):Nat:=(l.filter (lt · x)).length
theorem zp0(w:Sw T lt){a b:List D}{t x:D}(al:Al T (a++t::b))(tx:T x)(s:Srt lt (a++t::b)):cb lt (a++t::b) x=if lt t x=true then a.length+1+cb lt b x else cb lt a x:=by
 have tt:T t:=al t (by simp);obtain⟨sa,sb,sab⟩:=List.pairwise_append.mp s;obtain⟨st,sb'⟩:=z3o.mp sb;unfold cb;rw[List.filter_append,z03,List.filter_cons];split
 · rename_i h;have e:a.filter (lt · x)=a:=List.filter_eq_self.mpr fun y hy=>w.tr y t x (al y (by simp[hy])) tt tx (sab y hy t (z1j ..)) h;rw[e,List.length_cons];omega
 · rename_i h;have e:b.filter (lt · x)=[]:=List.filter_eq_nil_iff.mpr fun y hy q=>h (w.tr t y x tt (al y (by simp[hy])) tx (st y hy) q);rw[e];simp
theorem zwg(l:List D)(x:D):cb lt l x<=l.length:=List.length_filter_le ..
theorem ziw(w:Sw T lt){x:D}(tx:T x):∀{l:List D},Al T l->Srt lt l->(∀y∈l.take (cb lt l x),lt y x=true)/\(∀y∈l.drop (cb lt l x),lt y x=false)
 | [],_,_=>⟨fun y hy=>by simp at hy,fun y hy=>by simp at hy⟩
 | z::l,al,s=>by
   obtain⟨sz,sl⟩:=z3o.mp s;have e:=zp0 w (a:=[]) (b:=l) (t:=z) al tx s;rw[List.nil_append]at e;by_cases h:lt z x=true
   · rw[z1t h]at e;obtain⟨i1,i2⟩:=ziw w tx al.tail sl;rw[e,show[].length+1+cb lt l x=cb lt l x+1 by simp;omega,List.take_succ_cons,List.drop_succ_cons];exact⟨fun y hy=>(z1e.mp hy).elim (fun q=>q▸h) (i1 y),i2⟩
   · rw[z10 h]at e;have e0:cb lt (z::l) x=0:=e;rw[e0];refine⟨fun y hy=>by simp at hy,fun y hy=>?_⟩;rcases z1e.mp hy with rfl | hy
     · exact z3s.mpr h
     · exact z3s.mpr fun q=>h (w.tr z y x al.head (al.tail y hy) tx (sz y hy) q)
theorem zrt(w:Sw T lt){x:D}(tx:T x){l:List D}(al:Al T l)(s:Srt lt l):hs lt l x=true↔∃y,l[cb lt l x]? = some y/\lt x y=false:=by
 obtain⟨h1,h2⟩:=ziw w tx al s;constructor
 · intro h;obtain⟨y,hy,r⟩:=hs_iff.mp h;have hy':y∈l.drop (cb lt l x):=by
     rw[<-List.take_append_drop (cb lt l x) l]at hy;rcases z1p.mp hy with q | q
     · have:=r.1;rw[h1 y q]at this;cases this
     · exact q
   cases q:l.drop (cb lt l x) with
   |nil=>rw[q]at hy';cases hy'
   | cons z m=>
     have hz:l[cb lt l x]? = some z:=by have:=List.getElem?_drop (xs:=l) (i:=cb lt l x) (j:=0);rw[q]at this;simpa using this.symm
     refine⟨z,hz,?_⟩;have sd:Srt lt (z::m):=q▸List.Pairwise.drop s;rw[q]at hy';rcases z1e.mp hy' with rfl | hm
     · exact r.2
     · cases g:lt x z with
       |false=>rfl
       | true=>
         have tz:=al z (z1m hz);have:=w.tr x z y tx tz (al y hy) g ((z3o.mp sd).1 y hm);rw[r.2]at this;cases this
 · intro⟨y,hy,r⟩;have hm:y∈l.drop (cb lt l x):=z1m (i:=0) (by rw[List.getElem?_drop];simpa using hy);exact hs_iff.mpr ⟨y,z1m hy,h2 y hm,r⟩
end
variable {k:Nat} [Kd k] {d d0 l r t x y:D}{ts us rt:List D}{h i j g rh:Nat}{n:Int}{S S0 S1:Sto}{ev:Ev}{T:D->Prop}{lt:D->D->Bool}{bv:D}
structure Bf (k:Nat) (T:D->Prop) (lt:D->D->Bool) (bv:D):Prop where
 nc:∀x,T x->noC x=true
 ca:∀{q:Nat}{e1 e2:E}{ev:Ev}{S:Sto}{x y:D},zmv S=true->ev[q]? = some (some bv)->e1 ev S=some (x,S)->e2 ev S=some (y,S)->T x->T y->zaq ft zgi zoh (eV q) (aC e1 (aC e2 aN)) ev S=some (.bl (lt x y),S)
 sw:Sw T lt
theorem bef{q:Nat}{e1 e2:E}(B:Bf k T lt bv)(hn:zmv S=true)(hq:ev[q]? = some (some bv))(h1:e1 ev S=some (x,S))(h2:e2 ev S=some (y,S))(tx:T x)(ty:T y):zaq ft zgi zoh (eV q) (aC e1 (aC e2 aN)) ev S=some (.bl (lt x y),S):=B.ca hn hq h1 h2 tx ty
theorem zeo(B:Bf k T lt bv)(hn:zmv S=true)(tx:T x):∀(q:Nat) {d:D}{ts:List D}{h:Nat}{b:Bool},Mk k d ts h->h<q->Al T (ord b ts)->Srt lt (ord b ts)->x5 q [d,.bl b,x,bv] S=some (.int (cb lt (ord b ts) x:Nat),S)
 |0,_,_,_,_,_,hq,_,_=>absurd hq (z33 _)
 | q+1,d,ts,h,b,m,hq,al,s=>by
   rcases zhs m with⟨rfl,rfl,rfl⟩ | ⟨⟨xs,rfl⟩,u0,rest,e0⟩
   · have e:ord b ([]:List D)=[]:=by unfold ord;split<;>rfl
     rw[e];exact jl rfl (qp (qh (jb (e_2 (e_v rfl) e_k rfl)) (zt e_k)))
   · have hh:0<h:=zaj m (by rw[e0];simp);obtain⟨u,t,y,c,xt,yt,xh,yh,c1,sn⟩:=zkf m hh b S;have hu:=sn.hu;have hx:=sn.hx;have hy:=sn.hy;rw[hu]at al s ⊢;have tt:T t:=al t (by simp);obtain⟨sa,sb,_⟩:=List.pairwise_append.mp s;have sb':=(z3o.mp sb).2;have aX:Al T (ord c xt):=fun z hz=>al z (by simp[hz]);have aY:Al T (ord c yt):=fun z hz=>al z (by simp[hz]);rw[zp0 B.sw al tx s];have e1:bE (zaq ft zgi zoh (eV 3) (aC (e2s qf (eV 4) (eK (.int 1))) (aC (eV 2) aN))) [some (.tup xs),some (.bl b),some x,some bv,some (.tup [u,t,y,.bl c])] S=some (lt t x,S):=jb (bef B hn rfl (qj (e_v rfl) e_k rfl) (e_v rfl) tt tx);by_cases g:lt t x=true
     · rw[z1t g];rw[g]at e1;refine jl rfl (zh (zp (jb (e_2 (e_v rfl) e_k (zik xs)))) (zh (zo (zg (a_c (e_v rfl) (a_c (e_v rfl) a_n)) c1)) (qp (qh e1 (zt (e_2 (e_2 (zg (a_c (qj (e_v rfl) e_k rfl) a_n) (jf sn.mx S)) e_k (add_int _ _)) (zg (a_c (qj (e_v rfl) e_k rfl) (a_c (qj (e_v rfl) e_k rfl) (a_c (e_v rfl) (a_c (e_v rfl) a_n)))) (zeo B hn tx q sn.my (by omega) aY sb')) ?_))))));rw[add_int,y4];congr 2
     · have g':lt t x=false:=z3s.mpr g;rw[z10 g];rw[g']at e1;exact jl rfl (zh (zp (jb (e_2 (e_v rfl) e_k (zik xs)))) (zh (zo (zg (a_c (e_v rfl) (a_c (e_v rfl) a_n)) c1)) (zh (zp e1) (zt (zg (a_c (qj (e_v rfl) e_k rfl) (a_c (qj (e_v rfl) e_k rfl) (a_c (e_v rfl) (a_c (e_v rfl) a_n)))) (zeo B hn tx q sn.mx (by omega) aX sa))))))
structure Ste (k:Nat) (T:D->Prop) (lt:D->D->Bool) (d:D) (ts:List D) (h:Nat):Prop where
 mm:Mk k d ts h
 al:Al T ts
 sr:Srt lt ts
theorem zci(B:Bf k T lt bv)(hn:zmv S=true)(tx:T x)(s:Ste k T lt d ts h)(hl:ts.length<=2000):kt [d,x,bv] S=some (.int (cb lt ts x:Nat),S):=by have h1:=h15 s.mm hl;have:=zeo B hn tx 40 (b:=false) s.mm (by omega) (show Al T (ord false ts)from s.al) (show Srt lt (ord false ts)from s.sr);exact jl rfl (zt (zg (a_c (e_v rfl) (a_c e_k (a_c (e_v rfl) (a_c (e_v rfl) a_n)))) this))
theorem ze2(B:Bf k T lt bv)(hn:zmv S=true)(tx:T x)(s:Ste k T lt d ts h)(hl:ts.length<=2000):xw [d,.int (cb lt ts x:Nat),x,bv] S=some (.bl (hs lt ts x),S):=by
 have hat:=zrt B.sw tx s.al s.sr;by_cases hp:cb lt ts x<ts.length
 · have hy:ts[cb lt ts x]? = some ts[cb lt ts x]:=z08 hp;have ty:=s.al _ (z3w hp);have e:hs lt ts x=!lt x ts[cb lt ts x]:=by
     rw[Bool.eq_iff_iff,hat];constructor
     · rintro⟨y,q,r⟩;rw[hy]at q;cases q;rw[r];rfl
     · intro q;exact⟨_,hy,by cases g:lt x ts[cb lt ts x]with | false=>rfl | true=>rw[g]at q;cases q⟩
   rw[e];exact jl rfl (zt (zv2 (e_2 (e_v rfl) (zg (a_c (e_v rfl) a_n) (jf s.mm S)) ((zwz _ _).trans (by rw[z1c (by omega)]))) (zv1 (bef B hn rfl (e_v rfl) (zg (a_c (e_v rfl) (a_c (e_v rfl) a_n)) (zzd s.mm hl hy S)) tx ty))))
 · have e:hs lt ts x=false:=by
     cases g:hs lt ts x with
     |false=>rfl
     |true=>obtain⟨y,q,_⟩:=hat.mp g;exact absurd (z06.mp q).1 hp
   rw[e];exact jl rfl (zt (zv3 (e_2 (e_v rfl) (zg (a_c (e_v rfl) a_n) (jf s.mm S)) ((zwz _ _).trans (by rw[z1b (by omega)])))))
end Pg
namespace Pg
open PySem L2 F Mt
variable {d d0 l r t x y:D}{ts us as bs rt:List D}{h i j g rh:Nat}{n:Int}{S S0 S1:Sto}{ev:Ev}{T:D->Prop}{lt:D->D->Bool}{bv:D}
def Ti(x:D):Prop:=∃i,x=.int i
def iv:D->Int
 | .int i=>i
 |_=>0
def fs:D->D
 | .tup (a::_)=>a
 |_=>.non
def TP(x:D):Prop:=∃i v,x=.tup [.int i,v]/\noC v=true
def ltI(x y:D):Bool:=decide (iv x<iv y)
def ltP(x y:D):Bool:=decide (iv (fs x)<iv (fs y))
theorem ztn(f:D->Int):Sw T fun x y=>decide (f x<f y) :=
 ⟨fun x _=>z1b (Int.lt_irrefl _),fun x y z _ _ _ p q=>z1c (Int.lt_trans (z2x p) (z2x q)),fun x y z _ _ _ p=>by
   have p:=z2x p;by_cases q:f x<f y
   · exact .inl (z1c q)
   · exact .inr (z1c (by omega))⟩
theorem alk_I:alk ltI x y↔iv x=iv y:=by unfold alk ltI;rw[z22,z22];omega
theorem alk_P:alk ltP x y↔iv (fs x)=iv (fs y):=by unfold alk ltP;rw[z22,z22];omega
theorem zvc(hx:Ti x)(hy:Ti y)(e:iv x=iv y):x=y:=by obtain⟨a,rfl⟩:=hx;obtain⟨b,rfl⟩:=hy;exact z2f D.int e
theorem zzy(al:Al Ti ts)(tx:Ti x):hs ltI ts x=true↔x∈ts:=by
 rw[hs_iff];constructor
 · rintro⟨y,hy,r⟩;exact zvc (al y hy) tx (alk_I.mp r)▸hy
 · exact fun h=>⟨x,h,alk_I.mpr rfl⟩
theorem zih(a b:Int):kq [.int a,.int b] S=some (.bl (decide (a<b)),S):=jl rfl (zt (e_2 (e_v rfl) (e_v rfl) (zwz _ _)))
theorem zlx:ft (Str.ofString "_law_before")=some kq:=by unfold ft;rw[z10 (show ¬ (Str.ofString "_law_before"=Str.ofString "_law_joined") by decide +kernel),z1t rfl]
theorem bfI:Bf 0 Ti ltI (.fn (Str.ofString "_law_before")):=by
 refine⟨fun x hx=>?_,fun {q e1 e2 ev S x y} hn hq h1 h2 tx ty=>?_,ztn iv⟩
 · obtain⟨a,rfl⟩:=hx;rfl
 · obtain⟨a,rfl⟩:=tx;obtain⟨b,rfl⟩:=ty;simp only[zaq,e_v hq,Option.bind_some,zlx,a_c h1 (a_c h2 a_n)];exact zih a b
theorem zwc:zoh lt_0=some zw5:=by unfold zoh;rw[z1t rfl]
theorem zvg(tx:TP x)(ty:TP y):zw5 ([x,y]++[.fn (Str.ofString "_law_before")]) S=some (.bl (ltP x y),S):=by obtain⟨a,v,rfl,_⟩:=tx;obtain⟨c,w,rfl,_⟩:=ty;show zaq ft (fun _=>none) zjo (eV 2) (aC (e2s qf (eV 0) (eK (.int 0))) (aC (e2s qf (eV 1) (eK (.int 0))) aN)) [some (.tup [.int a,v]),some (.tup [.int c,w]),some (.fn (Str.ofString "_law_before"))] S=_;have av:aC (e2s qf (eV 0) (eK (.int 0))) (aC (e2s qf (eV 1) (eK (.int 0))) aN) [some (.tup [.int a,v]),some (.tup [.int c,w]),some (.fn (Str.ofString "_law_before"))] S=some ([.int a,.int c],S):=a_c (qj (e_v rfl) e_k rfl) (a_c (qj (e_v rfl) e_k rfl) a_n);have hv:eV 2 [some (.tup [.int a,v]),some (.tup [.int c,w]),some (.fn (Str.ofString "_law_before"))] S=some (.fn (Str.ofString "_law_before"),S):=e_v rfl;simp only[zaq,hv,Option.bind_some,zlx,av];exact zih a c
def bk:D:=.clo lt_0 [.fn (Str.ofString "_law_before")]
theorem zk6(hx:TP x):noC x=true:=by obtain⟨a,v,rfl,hv⟩:=hx;show(true&&(noC v&&true))=true;rw[hv];rfl
theorem bfP:Bf 0 TP ltP bk:=by
 refine⟨fun x hx=>zk6 hx,fun {q e1 e2 ev S x y} hn hq h1 h2 tx ty=>?_,ztn fun x=>iv (fs x)⟩;have nn:(noCL [x,y]&&zfq [.fn (Str.ofString "_law_before")]&&zmv S)=true/\[x,y].length=lt_0.params.args.length:=⟨by rw[hn];simp only[noCL,zk6 tx,zk6 ty,z38];rfl,rfl⟩
 have hq':eV q ev S=some (.clo lt_0 [.fn (Str.ofString "_law_before")],S):=e_v hq;simp only[zaq,hq',Option.bind_some,zwc,a_c h1 (a_c h2 a_n),z1t nn];exact zvg tx ty
theorem ztd(hx:Ti x):Thing 0 x:=.inl hx
theorem zf1{g:E}{fr:Ev}{f:D->D}:∀{ds:List D},(∀x∈ds,g (some x::fr) S=some (f x,S))->zep ziy g fr ds S=some (ds.map f,S)
 | [],_=>rfl
 |x::ds,h=>zhe (h x (z1j ..)) (zf1 fun z hz=>h z (z09 _ hz))
theorem zpz{fr:List Nat}{e g:E}{m:Nat}{f:D->D}(hm:m<=2000)(he:e ev S=some (.int (m:Int),S))(hc:∀x∈qo 0 m,g (some x::fr.map (zg7 ev)) S=some (f x,S)):yu fr (zmu e) ziy g ev S=some (.lst ((qo 0 m).map f),S):=by unfold yu;rw[(zxt (by omega) (by omega) he).trans (by rw[Int.toNat_natCast])];simp only[Option.bind_some,zbe,zf1 hc,Option.map_some]
end Pg
namespace Pg
open PySem L2 F Mt
variable {d d0 d1 d2 l r t x y av:D}{ts us as bs rt new w:List D}{h i j g rh h1 h2 p:Nat}{n n0 a v:Int}{S S0 S1 R:Sto}{ev:Ev}{T:D->Prop}{lt:D->D->Bool}
abbrev LB:D:=.fn (Str.ofString "_law_before")
def tK:MO:=.tab "by_key" ((("by_key":Str)++".<locals>.")++"<lambda>")
def Y(av:D)(n0:Int)(w:List D)(R:Sto):Sto:=tK::wd av n0::wd (x6 0) (0+(w.length:Int))::R
theorem zww{T:Sto}(q:Wt 0 2 (Y av n0 w R) (0+(w.length:Int)) new T):T=Y av n0 (w++new) R:=by
 apply List.ext_getElem?;intro u
 match u with
 |0=>rw[q.ne 0 (by omega)];rfl
 |1=>rw[q.ne 1 (by omega)];rfl
 | 2=>
   rw[q.at_];show some (wd (x6 0) _)=some (wd (x6 0) _);rw[z03,Int.natCast_add,z39]
 |u+3=>rw[q.ne (u+3) (by omega)];rfl
structure Rg (av:D) (R:Sto):Prop where
 na:noC av=true
 ba:bnd 0 av=true
 no:R.all zrk=true
 bd:∀m∈R,zgc 0 m=true
theorem ztb(h:noC av=true):zrk (wd av n)=true:=by show(noC av&&(true&&true))=true;rw[h];rfl
theorem zmw(h:bnd 0 av=true):zgc 0 (wd av n)=true:=by show(bnd 0 av&&(true&&true))=true;rw[h];rfl
theorem zsz(q:Rg av R):zmv (Y av n0 w R)=true:=by show(zrk (wd av n0)&&(zrk (wd (x6 0) (0+(w.length:Int)))&&R.all zrk))=true;rw[ztb q.na,ztb rfl,q.no];rfl
theorem zz7(q:Rg av R):SB (Y av n0 w R):=fun m hm=>by
 refine zc4 (z1y _) ?_;rcases z1e.mp hm with rfl | hm
 · rfl
 rcases z1e.mp hm with rfl | hm
 · exact zmw q.ba
 rcases z1e.mp hm with rfl | hm
 · exact zmw rfl
 · exact q.bd m hm
theorem zzk(al:All (Ac (U w) (0+(w.length:Int)) new) d):All (U (w++new)) d:=al.mono fun v hv=>Ac.two hv
theorem zbg(al:All (U w) d):All (U (w++new)) d:=al.mono fun v hv=>Ac.app hv
def Few(d d':D):Prop:=∀S,SB S->jk [.lst [d],.lst [d'],.int 24] S=some (.bl true,S)
theorem zyv{k:Nat}[Kd k]{d':D}{ts':List D}{h':Nat}(m:Mk k d ts h)(al:All (U w) d)(hl:ts.length<=2000)(m':Mk k d' ts' h')(al':All (Ac (UI w [d]) n new) d')(hl':ts'.length<=2000)(hb:new.length<=24*(h+2)):Few d d':=fun S hS=>
 zpl (P:=U w) (P':=Ac (UI w [d]) n new) (N:=new.length) (n:=n) hS (fun x hx=>by rw[z05.mp hx];exact⟨_,h,Mk.nt m al,hl,fun S=>zcu m S⟩) (by simp) (fun _ _=>zxc) (fun x hx=>by rw[z05.mp hx];exact⟨_,h',Mk.nt m' al',hl',fun S=>zcu m' S⟩) (by simp) (fun v=>zp7) (by decide) fun mo H=>by have:=zlr m (z05.mpr rfl) H;omega
theorem zzt(ht:∀x∈ts,Thing 0 x)(hl:ts.length<=2000):∃d h new,xf [.obj 2,.lst ts] (Y av n0 w R)=some (d,Y av n0 (w++new) R)/\Mk 0 d ts h/\All (U (w++new)) d:=by obtain⟨d,h,new,T1,c,rr⟩:=zdp (k:=0) (i:=2) (n:=0+(w.length:Int)) (P:=U w) (S:=Y av n0 w R) rfl ht hl;have eT:=zww rr.wt;subst eT;exact⟨d,h,new,c,rr.mm,zzk rr.all⟩
theorem zt2(m:Mk 0 d ts h)(al:All (U w) d)(hl:ts.length<1999)(hp:p<=ts.length)(ht:Thing 0 x):∃d' ts' h' new,zg1 [.obj 2,d,.int p,x] (Y av n0 w R)=some (d',Y av n0 (w++new) R)/\Mk 0 d' ts' h'/\Few d d':=by obtain⟨d',h',new,T1,c,rr,few⟩:=zo4 (k:=0) (i:=2) (S:=Y av n0 w R) (n:=0+(w.length:Int)) (p:=p) (x:=x) rfl m (by omega) hp ht (zdu m al (z05.mpr rfl));have eT:=zww rr.wt;subst eT;exact⟨d',_,h',new,c,rr.mm,zyv m al (by omega) rr.mm rr.all (by rw[z03,List.length_cons,z1n,z2c];omega) (by omega)⟩
theorem zx4(m:Mk 0 d ts h)(al:All (U w) d)(hl:ts.length<1999)(hp:p<ts.length):∃d' ts' h' new,zlv [.obj 2,d,.int p] (Y av n0 w R)=some (d',Y av n0 (w++new) R)/\Mk 0 d' ts' h'/\Few d d':=by obtain⟨d',h',new,T1,c,rr,few⟩:=zpc (k:=0) (i:=2) (S:=Y av n0 w R) (n:=0+(w.length:Int)) (p:=p) rfl m (by omega) hp (zdu m al (z05.mpr rfl));have eT:=zww rr.wt;subst eT;exact⟨d',_,h',new,c,rr.mm,zyv m al (by omega) rr.mm rr.all (by rw[z2t hp];omega) (by omega)⟩
theorem ztm(m:Mk 0 d ts h)(al:All (U w) d)(hl:ts.length<1999)(hp:p<ts.length)(ht:Thing 0 x):∃d' ts' h' new,zal [.obj 2,d,.int p,x] (Y av n0 w R)=some (d',Y av n0 (w++new) R)/\Mk 0 d' ts' h'/\Few d d':=by obtain⟨d',new,T1,c,rr,few⟩:=zdi (k:=0) (i:=2) (S:=Y av n0 w R) (n:=0+(w.length:Int)) (p:=p) (x:=x) rfl m (by omega) hp ht (zdu m al (z05.mpr rfl));have eT:=zww rr.wt;subst eT;exact⟨d',_,h,new,c,rr.mm,zyv m al (by omega) rr.mm rr.all (by rw[z2s];omega) (by omega)⟩
abbrev St(d:D)(ts:List D)(h:Nat):Prop:=Ste 0 Ti ltI d ts h
abbrev Ta(d:D)(ts:List D)(h:Nat):Prop:=Ste 0 TP ltP d ts h
theorem zsu(q:Rg av R)(tx:Ti x)(s:St d ts h)(al:All (U w) d)(hl:ts.length<1999)(g:hs ltI ts x=false):∃d' ts' h' new,zg2 [.obj 2,d,x,LB] (Y av n0 w R)=some (d',Y av n0 (w++new) R)/\Mk 0 d' ts' h'/\Few d d':=by have c1:=zci bfI (zsz (n0:=n0) (w:=w) q) tx s (by omega);have c2:=ze2 bfI (zsz (n0:=n0) (w:=w) q) tx s (by omega);rw[g]at c2;obtain⟨d',ts',h',new,c,m,f⟩:=zt2 (av:=av) (n0:=n0) (R:=R) s.mm al hl (zwg ts x) (ztd tx);exact⟨d',ts',h',new,jl rfl (zh (zo (zg (a_c (e_v rfl) (a_c (e_v rfl) (a_c (e_v rfl) a_n))) c1)) (zh (zp (jb (zg (a_c (e_v rfl) (a_c (e_v rfl) (a_c (e_v rfl) (a_c (e_v rfl) a_n)))) c2))) (zt (zg (a_c (e_v rfl) (a_c (e_v rfl) (a_c (e_v rfl) (a_c (e_v rfl) a_n)))) c)))),m,f⟩
theorem zf0{bv:D}(B:Bf 0 T lt bv)(q:Rg av R)(tx:T x)(s:Ste 0 T lt d ts h)(al:All (U w) d)(hl:ts.length<1999)(g:hs lt ts x=true):∃d' ts' h' new,zbk [.obj 2,d,x,bv] (Y av n0 w R)=some (d',Y av n0 (w++new) R)/\Mk 0 d' ts' h'/\Few d d':=by have c1:=zci B (zsz (n0:=n0) (w:=w) q) tx s (by omega);have c2:=ze2 B (zsz (n0:=n0) (w:=w) q) tx s (by omega);rw[g]at c2;have c3:ke [d,x,bv] (Y av n0 w R)=some (.int (cb lt ts x:Nat),Y av n0 w R):=jl rfl (zh (zo (zg (a_c (e_v rfl) (a_c (e_v rfl) (a_c (e_v rfl) a_n))) c1)) (zh (zp (zop (jb (zg (a_c (e_v rfl) (a_c (e_v rfl) (a_c (e_v rfl) (a_c (e_v rfl) a_n)))) c2)))) (zt (e_v rfl))));obtain⟨y,hy,_⟩:=(zrt B.sw tx s.al s.sr).mp g;obtain⟨d',ts',h',new,c,m,f⟩:=zx4 (av:=av) (n0:=n0) (R:=R) s.mm al hl (z06.mp hy).1;exact⟨d',ts',h',new,jl rfl (zt (zg (a_c (e_v rfl) (a_c (e_v rfl) (a_c (zg (a_c (e_v rfl) (a_c (e_v rfl) (a_c (e_v rfl) a_n))) c3) a_n))) c)),m,f⟩
theorem zp1:zaz [LB] (Y av n0 w R)=some (bk,Y av n0 w R):=by unfold zaz zr2;rw[z1t (show[LB].length=1 from rfl)];exact z1t ⟨rfl,rfl⟩
theorem zka:zeb [x] S=some (.tup [x,.non],S):=jl rfl (zt (ym (a_c (e_v rfl) (a_c e_k a_n)) (z04 rfl)))
theorem zm0(a v:Int):TP (.tup [.int a,.int v]):=⟨a,_,rfl,rfl⟩
theorem zxe(a:Int):TP (.tup [.int a,.non]):=⟨a,_,rfl,rfl⟩
theorem zq2(a v:Int):Thing 0 (.tup [.int a,.int v]):=.inr (.inr ⟨a,v,rfl⟩)
theorem zjy(q:Rg av R)(a:Int)(s:Ta d ts h)(al:All (U w) d)(hl:ts.length<1999)(g:hs ltP ts (.tup [.int a,.non])=true):∃d' ts' h' new,zcw [.obj 2,d,.int a,LB] (Y av n0 w R)=some (d',Y av n0 (w++new) R)/\Mk 0 d' ts' h'/\Few d d':=by obtain⟨d',ts',h',new,c,m,f⟩:=zf0 (av:=av) (n0:=n0) (R:=R) bfP q (zxe a) s al hl g;exact⟨d',ts',h',new,jl rfl (zt (zg (a_c (e_v rfl) (a_c (e_v rfl) (a_c (zg (a_c (e_v rfl) a_n) zka) (a_c (zg (a_c (e_v rfl) a_n) zp1) a_n)))) c)),m,f⟩
theorem zot(q:Rg av R)(a v:Int)(s:Ta d ts h)(al:All (U w) d)(hl:ts.length<1999):∃d' ts' h' new,yf [.obj 2,d,.int a,.int v,LB] (Y av n0 w R)=some (d',Y av n0 (w++new) R)/\Mk 0 d' ts' h'/\Few d d':=by
 have c1:=zci bfP (zsz (n0:=n0) (w:=w) q) (zm0 a v) s (by omega);have c2:=ze2 bfP (zsz (n0:=n0) (w:=w) q) (zm0 a v) s (by omega);have pre:∀{rest:C}{o:Out}{S2:Sto},rest [some (.obj 2),some d,some (.int a),some (.int v),some LB,some (.tup [.int a,.int v]),some bk,some (.int (cb ltP ts (.tup [.int a,.int v]):Nat))] (Y av n0 w R)=some (o,S2)->(zw (qv 5 (zap (aC (eV 2) (aC (eV 3) aN)))) (zw (qv 6 (zk zaz (aC (eV 4) aN))) (zw (qv 7 (zk kt (aC (eV 1) (aC (eV 5) (aC (eV 6) aN))))) rest))) [some (.obj 2),some d,some (.int a),some (.int v),some LB,none,none,none] (Y av n0 w R)=some (o,S2):=fun hr=>
   zh (zo (ym (a_c (e_v rfl) (a_c (e_v rfl) a_n)) (z04 rfl))) (zh (zo (zg (a_c (e_v rfl) a_n) zp1)) (zh (zo (zg (a_c (e_v rfl) (a_c (e_v rfl) (a_c (e_v rfl) a_n))) c1)) hr))
 cases g:hs ltP ts (.tup [.int a,.int v]) with
 | true=>
   rw[g]at c2;obtain⟨y,hy,_⟩:=(zrt bfP.sw (zm0 a v) s.al s.sr).mp g;obtain⟨d',ts',h',new,c,m,f⟩:=ztm (av:=av) (n0:=n0) (R:=R) s.mm al hl (z06.mp hy).1 (zq2 a v);exact⟨d',ts',h',new,jl rfl (pre (qp (qh (jb (zg (a_c (e_v rfl) (a_c (e_v rfl) (a_c (e_v rfl) (a_c (e_v rfl) a_n)))) c2)) (zt (zg (a_c (e_v rfl) (a_c (e_v rfl) (a_c (e_v rfl) (a_c (e_v rfl) a_n)))) c))))),m,f⟩
 | false=>
   rw[g]at c2;obtain⟨d',ts',h',new,c,m,f⟩:=zt2 (av:=av) (n0:=n0) (R:=R) s.mm al hl (zwg ts (.tup [.int a,.int v])) (zq2 a v);exact⟨d',ts',h',new,jl rfl (pre (zh (zp (jb (zg (a_c (e_v rfl) (a_c (e_v rfl) (a_c (e_v rfl) (a_c (e_v rfl) a_n)))) c2))) (zt (zg (a_c (e_v rfl) (a_c (e_v rfl) (a_c (e_v rfl) (a_c (e_v rfl) a_n)))) c)))),m,f⟩
end Pg
namespace Pg
open PySem L2 F Mt
section
variable {k:Nat} [Kd k] {d x:D}{ts:List D}{h:Nat}
theorem zk7(h:∀x∈ts,Thing k x):noC (zaf k ts)=true:=by have:=zto h;generalize zaf k ts=z at this ⊢;cases this<;>rfl
theorem zuu(hx:Thing k x):noC x=true:=by cases zhx hx<;>rfl
theorem zpg(m:Mk k d ts h):noC d=true:=by
 induction m with
 |non=>rfl
 | @node num a l t r lt rt lh rh ml mr ht h1 h2 i1 i2=>
   have ta:∀x∈ord a (lt++t::rt),Thing k x:=(Mk.node (num:=num) (a:=a) ml mr ht h1 h2).things;have tb:∀x∈(ord a (lt++t::rt)).reverse,Thing k x:=zo2 ta;unfold mkD;show noCL _=true;simp only[noCL,i1,i2,zuu ht,zk7 ta,zk7 tb,F.noC,z38]
end
variable {d d0 d1 d2 l r t x y av:D}{ts us as bs rt new w ps:List D}{h i j g rh h1 h2 p M:Nat}{n n0 a v st:Int}{S S0 S1 R:Sto}{ev:Ev}{T:D->Prop}{lt:D->D->Bool}
def mul(st:Int)(x:D):D:=.int (st*iv x)
def thg(st:Int)(M:Nat):List D:=(qo 0 M).map (mul st)
theorem zqb:(thg st M).length=M:=by unfold thg;rw[z1q,zgp]
theorem zhv:Al Ti (thg st M):=fun x hx=>by obtain⟨y,_,rfl⟩:=z1x.mp hx;exact⟨_,rfl⟩
theorem zj5{a:Int}(s0:1<=st):.int a∈thg st M↔a%st=0/\0<=a/st/\a/st<M:=by
 unfold thg qo;rw[z3g,z1x];constructor
 · rintro⟨k,hk,e⟩;have e:st*(0+(k:Int))=a:=D.int.inj e;rw[z4g]at e;have hk:=z23.mp hk;rw[<-e,Int.mul_emod_right,Int.mul_ediv_cancel_left _ (by omega)];omega
 · rintro⟨h1,h2,h3⟩;refine⟨(a/st).toNat,z23.mpr (by omega),?_⟩;show D.int (st*(0+((a/st).toNat:Int)))=_;rw[z4g,Int.toNat_of_nonneg h2,Int.mul_ediv_cancel' (Int.dvd_of_emod_eq_zero h1)]
theorem zte(s0:1<=st):Srt ltI (thg st M):=by unfold Srt thg qo;rw[z3g,z36];refine List.pairwise_lt_range.imp fun {a b} q=>z1c ?_;show st*(0+(a:Int))<st*(0+(b:Int));exact Int.mul_lt_mul_of_pos_left (by omega) (by omega)
def tbl(M:Nat):List D:=(qo 0 M).map fun x=>.tup [.int (3*iv x),x]
theorem zm7{M:Nat}{x:D}(hx:x∈qo 0 M):∃i:Nat,i<M/\x=.int i:=by unfold qo at hx;obtain⟨i,hi,rfl⟩:=z1x.mp hx;exact⟨i,z23.mp hi,by rw[z4g]⟩
theorem zqd:(tbl M).length=M:=by unfold tbl;rw[z1q,zgp]
theorem zth:Al TP (tbl M):=fun x hx=>by obtain⟨y,hy,rfl⟩:=z1x.mp hx;obtain⟨i,_,rfl⟩:=zm7 hy;exact zm0 _ _
theorem ztf:∀x∈tbl M,Thing 0 x:=fun x hx=>by obtain⟨y,hy,rfl⟩:=z1x.mp hx;obtain⟨i,_,rfl⟩:=zm7 hy;exact zq2 _ _
theorem ztg:Srt ltP (tbl M):=by unfold Srt tbl qo;rw[z3g,z36];refine List.pairwise_lt_range.imp fun {a b} q=>z1c ?_;show 3*(0+(a:Int))<3*(0+(b:Int));omega
def Pr(ps:List D):Prop:=∀z∈ps,∃d d',z=.tup [d,d']/\Few d d'/\noC d=true/\noC d'=true/\bnd 0 d=true/\bnd 0 d'=true
theorem Pr.no:∀{ps:List D},Pr ps->noCL ps=true
 | [],_=>rfl
 | z::ps,h=>by obtain⟨d,d',rfl,_,a,b,_⟩:=h z (z1j ..);show((noC d&&(noC d'&&true))&&noCL ps)=true;rw[a,b,Pr.no fun y hy=>h y (z09 _ hy)];rfl
theorem Pr.bd:∀{ps:List D},Pr ps->bndL 0 ps=true
 | [],_=>rfl
 | z::ps,h=>by obtain⟨d,d',rfl,_,_,_,a,b⟩:=h z (z1j ..);show((bnd 0 d&&(bnd 0 d'&&true))&&bndL 0 ps)=true;rw[a,b,Pr.bd fun y hy=>h y (z09 _ hy)];rfl
theorem Pr.add(h:Pr ps){ts':List D}{h':Nat}(m:Mk 0 d ts h1)(m':Mk 0 d1 ts' h')(f:Few d d1):Pr (ps++[.tup [d,d1]]):=fun z hz=>by
 rcases z1p.mp hz with q | q
 · exact h z q
 · exact⟨d,d1,z05.mp q,f,zpg m,zpg m',Mk.bnd0 m,Mk.bnd0 m'⟩
theorem Pr.rg(h:Pr ps)(na:noC av=true)(ba:bnd 0 av=true):Rg av [.lst ps] :=
 ⟨na,ba,by show(noCL ps&&true)=true;rw[h.no];rfl,fun m hm=>by rw[z05.mp hm];exact h.bd⟩
def pB:C:=(sIf (zcb (bE (zk jk (aC (ya (aC (eV 9) aN)) (aC (ya (aC (eV 10) aN)) (aC (eK (.int 24)) aN)))))) (qk (eK (.bl false))) je)
def sE(A B C E F G H I:D)(o9 o10:Option D):Ev:=[some A,some B,some (.obj 2),some C,some E,some F,some G,some H,some I,o9,o10]
theorem zpb(A B C E F G H I:D)(hS:SB S)(hj:S[j]? = some (.lst ps))(hp:Pr ps):∀(f q:Nat) (o9 o10:Option D),ps.length-q<f->q<=ps.length->∃o9' o10',zbz j [9,10] pB f q (sE A B C E F G H I o9 o10) S=some (.nx (sE A B C E F G H I o9' o10'),S)
 |0,q,_,_,h,_=>by omega
 | f+1,q,o9,o10,h,hq=>by
   unfold zbz;rw[hj];by_cases z:q<ps.length
   · obtain⟨d,d',e,fw,_⟩:=hp ps[q] (z3w z);obtain⟨o9',o10',ih⟩:=zpb A B C E F G H I hS hj hp f (q+1) (some d) (some d') (by omega) z;refine⟨o9',o10',?_⟩;have bd:pB (sE A B C E F G H I (some d) (some d')) S=some (.nx (sE A B C E F G H I (some d) (some d')),S):=zp (zop (jb (zg (a_c (xz (a_c (e_v rfl) a_n) (z04 rfl)) (a_c (xz (a_c (e_v rfl) a_n) (z04 rfl)) (a_c e_k a_n))) (fw S hS))));have st:yd (sE A B C E F G H I o9 o10) [9,10] [d,d']=some (sE A B C E F G H I (some d) (some d')):=rfl;simp only[z08 z,e,st,Option.bind_some,bd,ih]
   · refine⟨o9,o10,?_⟩;simp only[List.getElem?_eq_none (show ps.length<=q by omega)]
theorem zqt(ns:List Int)(hn:ns.length<=63)(na:noC av=true)(ba:bnd 0 av=true){mo:Nat}(hmo:mo<=500):j7 [.lst (ns.map D.int),.int (mo:Int)] [tK,wd av n0]=some (.bl true,[tK,wd av n0]):=by
 obtain⟨c24,hc24⟩:=zbu ns hn (q:=24) (by decide) (by decide);obtain⟨c,c0,c1,hc⟩:=zb7 c24 (q:=9) (by decide) (by decide);obtain⟨m,hm,em⟩:=zd2 c mo;obtain⟨u,hu,eu⟩:=zba (c/512) (c:=1+m) (by omega);have r0:Rg av []:=⟨na,ba,rfl,fun m hm=>by cases hm⟩
 have sl:(thg 3 (1+m)).length<1999:=by rw[zqb];omega
 have tl:(tbl (1+m)).length<1999:=by rw[zqd];omega
 obtain⟨one,h1,w1,k1,m1,a1⟩:=zzt (av:=av) (n0:=n0) (R:=[]) (w:=[]) (ts:=thg 3 (1+m)) (fun x hx=>ztd (zhv x hx)) (by omega);rw[List.nil_append]at k1 a1;obtain⟨tb,h2,w2,k2,m2,a2⟩:=zzt (av:=av) (n0:=n0) (R:=[]) (w:=w1) (ts:=tbl (1+m)) ztf (by omega);have s1:St one (thg 3 (1+m)) h1:=⟨m1,zhv,zte (by decide)⟩
 have s2:Ta tb (tbl (1+m)) h2:=⟨m2,zth,ztg⟩
 have t1:hs ltI (thg 3 (1+m)) (.int (3*(u:Int)+1))=false:=by rw[z3s,ne_eq,zzy zhv ⟨_,rfl⟩,zj5 (by decide)];intro z;have:=z.1;omega
 have t2:hs ltI (thg 3 (1+m)) (.int (3*(u:Int)))=true:=by rw[zzy zhv ⟨_,rfl⟩,zj5 (by decide)];omega
 have mt:D.tup [.int (3*(u:Int)),.int (u:Int)]∈tbl (1+m):=by unfold tbl qo;rw[z3g];exact z1x.mpr ⟨u,z23.mpr hu,by show D.tup [.int (3*(0+(u:Int))),.int (0+(u:Int))]=_;rw[z4g]⟩
 have t3:hs ltP (tbl (1+m)) (.tup [.int (3*(u:Int)),.non])=true:=hs_iff.mpr ⟨_,mt,alk_P.mpr rfl⟩;obtain⟨d3,ts3,h3,w3,k3,m3,f3⟩:=zsu (av:=av) (n0:=n0) (w:=w1++w2) r0 ⟨_,rfl⟩ s1 (zbg a1) sl t1;obtain⟨d4,ts4,h4,w4,k4,m4,f4⟩:=zf0 (av:=av) (n0:=n0) (w:=w1++w2++w3) bfI r0 ⟨_,rfl⟩ s1 (zbg (zbg a1)) sl t2;have p0:Pr []:=fun z hz=>by cases hz
 have p2:=(p0.add m1 m3 f3).add m1 m4 f4;obtain⟨d5,ts5,h5,w5,k5,m5,f5⟩:=zot (av:=av) (n0:=n0) (w:=w1++w2++w3++w4) (p2.rg na ba) (3*(u:Int)+1) 7 s2 (zbg (zbg a2)) tl;have p3:=p2.add m2 m5 f5;obtain⟨d6,ts6,h6,w6,k6,m6,f6⟩:=zot (av:=av) (n0:=n0) (w:=w1++w2++w3++w4++w5) (p3.rg na ba) (3*(u:Int)) 7 s2 (zbg (zbg (zbg a2))) tl;have p4:=p3.add m2 m6 f6;obtain⟨d7,ts7,h7,w7,k7,m7,f7⟩:=zjy (av:=av) (n0:=n0) (w:=w1++w2++w3++w4++w5++w6) (p4.rg na ba) (3*(u:Int)) s2 (zbg (zbg (zbg (zbg a2)))) tl t3;have p5:=p4.add m2 m7 f7;obtain⟨o9,o10,lp⟩:=zpb (.lst (ns.map D.int)) (.int (mo:Int)) (.int c) (.int ((1+m:Nat):Int)) one tb (.int (3*(u:Int))) (.obj 3) (zz7 (n0:=n0) (w:=w1++w2++w3++w4++w5++w6++w7) (p5.rg na ba)) (j:=3) rfl p5 6 0 none none (by simp) (z1y _);have frz:=zpj (S:=[tK,wd av n0]) (g:=z5 11 2 zau) (ds:=[.lst (ns.map D.int),.int (mo:Int)]) (J:=[wd (x6 0) (0+((w1++w2++w3++w4++w5++w6++w7).length:Int)),.lst ([]++[D.tup [one,d3]]++[D.tup [one,d4]]++[D.tup [tb,d5]]++[D.tup [tb,d6]]++[D.tup [tb,d7]])]) (c:=true) (fun q hq=>by
   refine zc4 (z1y _) ?_;rcases z1e.mp hq with rfl | hq
   · rfl
   · rw[z05.mp hq];exact zmw ba)
 refine frz ?_;have ap:∀{e:E}{dd:D}{qs:List D}{wa wb:List D}{A B C E F G H:D},e (sE A B C E F G H (.obj 3) none none) (Y av n0 wa [.lst qs])=some (dd,Y av n0 wb [.lst qs])->qs.length<100->jz (eV 8) e (sE A B C E F G H (.obj 3) none none) (Y av n0 wa [.lst qs])=some (.nx (sE A B C E F G H (.obj 3) none none),Y av n0 wb [.lst (qs++[dd])]):=fun he hq=>(zdk (q:=8) (j:=3) rfl rfl he rfl (by omega)).trans rfl;exact jl rfl (zh (zo (S1:=Y av n0 [] []) zp9) (zh (zo (zg (a_c (zg (a_c (e_v rfl) (a_c e_k a_n)) (hc24 _)) (a_c e_k a_n)) (hc _))) (zh (zo (d:=.int ((1+m:Nat):Int)) (e_2 e_k (e_2 (e_v rfl) (e_2 (e_v rfl) e_k (add_int _ _)) em) (add_int _ _))) (zh (zo (zg (a_c (e_v rfl) (a_c (zpz (f:=mul 3) (m:=1+m) (by omega) (e_v rfl) fun x hx=>by
     obtain⟨i,_,rfl⟩:=zm7 hx;exact e_2 e_k (e_v rfl) (zai (by decide))) a_n)) k1)) (zh (zo (zg (a_c (e_v rfl) (a_c (zpz (f:=fun x=>.tup [.int (3*iv x),x]) (m:=1+m) (by omega) (e_v rfl) fun x hx=>by
     obtain⟨i,_,rfl⟩:=zm7 hx;exact ym (a_c (e_2 e_k (e_v rfl) (zai (by decide))) (a_c (e_v rfl) a_n)) (z04 rfl)) a_n)) k2)) (zh (zo (e_2 e_k (e_2 (e_2 (e_v rfl) e_k (zen (by decide))) (e_v rfl) eu) (zai (by decide)))) (zh (zo (zpu (a_c (ym (a_c (e_v rfl) (a_c (zg (a_c (e_v rfl) (a_c (e_v rfl) (a_c (e_2 (e_v rfl) e_k (add_int _ _)) (a_c e_k a_n)))) k3) a_n)) (z04 rfl)) (a_c (ym (a_c (e_v rfl) (a_c (zg (a_c (e_v rfl) (a_c (e_v rfl) (a_c (e_v rfl) (a_c e_k a_n)))) k4) a_n)) (z04 rfl)) a_n)) (by simp))) (zh (ap (ym (a_c (e_v rfl) (a_c (zg (a_c (e_v rfl) (a_c (e_v rfl) (a_c (e_2 (e_v rfl) e_k (add_int _ _)) (a_c e_k (a_c e_k a_n))))) k5) a_n)) (z04 rfl)) (by simp)) (zh (ap (ym (a_c (e_v rfl) (a_c (zg (a_c (e_v rfl) (a_c (e_v rfl) (a_c (e_v rfl) (a_c e_k (a_c e_k a_n))))) k6) a_n)) (z04 rfl)) (by simp)) (zh (ap (ym (a_c (e_v rfl) (a_c (zg (a_c (e_v rfl) (a_c (e_v rfl) (a_c (e_v rfl) (a_c e_k a_n)))) k7) a_n)) (z04 rfl)) (by simp)) (zh (show zkj [9,10] (eV 8) pB (sE (.lst (ns.map D.int)) (.int (mo:Int)) (.int c) (.int ((1+m:Nat):Int)) one tb (.int (3*(u:Int))) (.obj 3) none none) _=_ from lp) (zt e_k))))))))))))
end Pg
namespace Pg
open PySem L2 F
noncomputable section
def zwk:C :=
 (zw (qv 1 (e2 q9 (e2 yb (zk zy (aC (eV 0) (aC (eK (.int 0)) aN))) (eK (.int 12))) (eK (.int 2)))) (zw (qv 2 (zel "Wood" qx (aC (e2s qf (ya (aC (eK .non) (aC (eK (.fn "_law_joined")) aN))) (eV 1)) aN))) (zw (qv 3 (eK (.int 30))) (zw (sIf (bE (e2 zdc (e2 q9 (e2 yb (zk zy (aC (eV 0) (aC (eK (.int 0)) aN))) (eK (.int 4))) (eK (.int 3))) (eK (.int 1)))) (qv 3 (eK (.int 500))) je) (zw (sIf (zcb (bE (zk j7 (aC (eV 0) (aC (eV 3) aN))))) (qk (eK (.bl false))) je) (zw (qv 4 zjj) (zw (qv 5 (zfx aN)) (zw (zgo 6 (eK (.int 2)) (zw (qv 7 (zk jr (aC (ya (aC (eV 1) aN)) (aC (zk zy (aC (eV 0) (aC (e2 qm (eK (.int 1)) (eV 6)) aN))) (aC (eV 3) aN))))) (zw (jz (eV 5) (zk xf (aC (eV 2) (aC (eV 7) aN)))) (sIf (zcb (bE (zk qi (aC (eV 4) (aC (zk zv (aC (e2s qf (eV 5) (eV 6)) aN)) aN))))) (qk (eK (.bl false))) je)))) (zw (zgo 6 (eK (.int 10)) (zw (qv 8 (zk z9 (aC (zk zy (aC (eV 0) (aC (e2 qm (eK (.int 4)) (e2 ki (eK (.int 2)) (eV 6))) aN))) (aC (eV 6) aN)))) (zw (zi7 [9,10,11] (zk xy (aC (ya (aC (eV 1) aN)) (aC (eV 2) (aC (eV 5) (aC (e2 q9 (zk zy (aC (eV 0) (aC (e2 qm (eK (.int 3)) (e2 ki (eK (.int 2)) (eV 6))) aN))) (eK (.int 14))) (aC (eV 8) aN))))))) (zw (zfb 12 (eV 10) (sIf (zcb (bE (zk qi (aC (eV 4) (aC (zk zv (aC (eV 12) aN)) aN))))) (qk (eK (.bl false))) je)) (zw (sIf (zho (bE (e2 ji (eV 11) (eK .non))) (zcb (bE (zk jk (aC (eV 9) (aC (eV 10) (aC (eV 11) aN))))))) (qk (eK (.bl false))) je) (qv 5 (zg9 (eV 5) (eV 10)))))))) (qk (eK (.bl true))))))))))))
def g_law:G:=z5 13 1 zwk
end
end Pg
namespace Pg
open PySem L2 F Mt
variable {k:Nat} [Kd k] {d x y T:D}{ts rs fs K:List D}{h i j Bd u:Nat}{n tm:Int}{S S0 S1 J:Sto}{ev e:Ev}{new w:List D}{kn:List (Int×D)}
def Bz(k:Nat)(w:List D):Sto:=[tK,wd (x6 k) (0+(w.length:Int))]
def Zl(k:Nat)(w:List D)(kn:List (Int×D))(J:Sto):Sto:=Bz k w++.dct kn::J
theorem zs9{T:Sto}(q:Wt k 1 (Zl k w kn J) (0+(w.length:Int)) new T):T=Zl k (w++new) kn J:=by
 apply List.ext_getElem?;intro v
 match v with
 |0=>rw[q.ne 0 (by omega)];rfl
 | 1=>
   rw[q.at_];show some (wd (x6 k) _)=some (wd (x6 k) _);rw[z03,Int.natCast_add,z39]
 |v+2=>rw[q.ne (v+2) (by omega)];rfl
theorem addv_b:noC (x6 k)=true/\bnd 0 (x6 k)=true:=by rcases Kd.eq (k:=k)with e | e<;>subst e<;>exact⟨rfl,rfl⟩
theorem zyh(hk:Kn k w kn):zgc 0 (.dct kn)=true:=zbv fun x hx=>by obtain⟨p,hp,rfl⟩:=z1x.mp hx;obtain⟨v,hv,_,e⟩:=hk p hp;rw[e];exact zsq hv.2 0
theorem zs8(hk:Kn k w kn)(hJ:JB J):SB (Zl k w kn J):=fun m hm=>by
 refine zc4 (z1y _) ?_;rcases z1e.mp hm with rfl | hm
 · rfl
 rcases z1e.mp hm with rfl | hm
 · exact zmw addv_b.2
 rcases z1e.mp hm with rfl | hm
 · exact zyh hk
 · exact hJ m hm
theorem Kn.up(h:Kn k w kn):Kn k (w++new) kn:=fun p hp=>by obtain⟨v,hv,e⟩:=h p hp;exact⟨v,⟨Ac.app hv.1,hv.2⟩,e⟩
theorem Kp.up(h:Kp k w Bd K):Kp k (w++new) (Bd+1) K:=fun d hd=>by obtain⟨ts,h,m,l,a⟩:=h d hd;exact⟨ts,h,m,by omega,zbg a⟩
theorem zu5(h:Kp k w Bd K):zgc 0 (.lst K)=true:=zbv fun x hx=>by obtain⟨ts,h,m,_⟩:=h x hx;exact Mk.bnd0 m
theorem zh9{ex:E}(hk:Kn k w kn)(hJ:JB J)(hl:kn.length<900000)(h4:ev[4]? = some (some (.obj 2)))(he:ex ev (Zl k w kn J)=some (d,Zl k w kn J))(m:Mk k d ts h)(tl:ts.length<=2000)(al:All (U w) d) :
   ∃kn' f,zk qi (aC (eV 4) (aC (zk zv (aC ex aN)) aN)) ev (Zl k w kn J)=some (.bl true,Zl k w kn' (J++[f]))/\Kn k w kn'/\JB (J++[f])/\kn'.length<=kn.length+5000:=by
 obtain⟨kvs,wk,kl,co⟩:=za9 (P:=UN k w) (S:=Zl k w kn J) (Mk.nt m (al.and (zx9 m))) tl (zs8 hk hJ);obtain⟨kn',c,k',l'⟩:=zgt (B:=Bz k w) (J:=J) hk wk kl (by omega);exact⟨kn',.fdc kvs,zg (a_c (e_v h4) (a_c (zg (a_c he a_n) co) a_n)) c,k',zyj hJ wk,l'⟩
def lE(ns:List Int)(kd mo j:Nat)(o6 o7 o8 o9 o10 o11 o12:Option D):Ev:=[some (.lst (ns.map D.int)),some (.int (kd:Int)),some (.obj 1),some (.int (mo:Int)),some (.obj 2),some (.obj j),o6,o7,o8,o9,o10,o11,o12]
def iB:C:=(sIf (zcb (bE (zk qi (aC (eV 4) (aC (zk zv (aC (eV 12) aN)) aN))))) (qk (eK (.bl false))) je)
theorem zlq(ns:List Int)(kd mo j:Nat)(o6 o7 o8 o9 o10 o11:Option D):∀(fs:List D),(∀d∈fs,∃ts h,Mk k d ts h/\ts.length<=2000/\All (U w) d)->∀(kn:List (Int×D)) (J:Sto) (o12:Option D),Kn k w kn->JB J->kn.length+5000*fs.length<900000 ->
   ∃kn' J2 o12',yc 12 iB fs (lE ns kd mo j o6 o7 o8 o9 o10 o11 o12) (Zl k w kn J)=some (.nx (lE ns kd mo j o6 o7 o8 o9 o10 o11 o12'),Zl k w kn' (J++J2))/\Kn k w kn'/\JB (J++J2)/\kn'.length<=kn.length+5000*fs.length
 | [],_,kn,J,o12,hk,hJ,_=>⟨kn,[],o12,by rw[z1z];rfl,hk,by rw[z1z];exact hJ,by simp⟩
 | d::fs,hd,kn,J,o12,hk,hJ,hl=>by
   rw[List.length_cons]at hl;obtain⟨ts,h,m,tl,al⟩:=hd d (z1j ..);obtain⟨kn1,f,c,k1,j1,l1⟩:=zh9 (ev:=lE ns kd mo j o6 o7 o8 o9 o10 o11 (some d)) (ex:=eV 12) hk hJ (by omega) rfl (e_v rfl) m tl al;obtain⟨kn',J2,o12',lp,k',j',l'⟩:=zlq ns kd mo j o6 o7 o8 o9 o10 o11 fs (fun z hz=>hd z (z09 _ hz)) kn1 (J++[f]) (some d) k1 j1 (by omega);refine⟨kn',f::J2,o12',yi (zp (zop (jb c))) ?_,k',?_,by rw[List.length_cons];omega⟩
   · rw[z2r]at lp;exact lp
   · rw[z2r]at j';exact j'
theorem zvm{S':Sto}{tm:Int}(dx:Dx k w Bd S n rs fs (.int tm) new S')(hB:Bd<1900)(hS:SB S1):jk [.lst rs,.lst fs,.int tm] S1=some (.bl true,S1):=by
 rcases dx.tm with q | ⟨tm',q,t0,t1,H⟩
 · cases q
 · cases q;exact zpl (P:=U w) (P':=Ac (UI w rs) n new) (N:=new.length) (n:=n) hS (fun x hx=>by obtain⟨ts,h,m,l,al⟩:=dx.rk x hx;exact⟨_,h,Mk.nt m al,by omega,fun S=>zcu m S⟩) (z1u dx.rl (by decide)) (fun _ _=>zxc) (fun x hx=>by obtain⟨ts,h,m,l,al⟩:=dx.fk x hx;exact⟨_,h,Mk.nt m al,by omega,fun S=>zcu m S⟩) (z1u dx.fl (by decide)) (fun v=>zp7) ⟨t0,t1⟩ H
theorem zwr{q v:Nat}{td us:List D}{g:E}(h2:ev[q]? = some (some (.obj v)))(hs:S[v]? = some (.lst td))(hg:g ev S=some (.lst us,S))(hl:td.length+us.length<=16777216):zg9 (eV q) g ev S=some (.obj S.length,S++[.lst (td++us)]):=by have hz:sizeLine=16777216:=z14;simp only[zg9,e_v h2,Option.bind_some,hg,hs,hz,hl,z4e]
theorem zm4{i j u:Nat}{f:E}{x y z:D}(h:f ev S=some (.lst [x,y,z],S1)):zi7 [i,j,u] f ev S=some (.nx (((ev.set i (some x)).set j (some y)).set u (some z)),S1):=by simp[zi7,h,yd]
theorem zta(hu:J[u]? = some (.lst K)):(Zl k w kn J)[3+u]? = some (.lst K):=(zze (Bz k w) J (.dct kn) u).trans hu
def mB:C:=(zw (qv 8 (zk z9 (aC (zk zy (aC (eV 0) (aC (e2 qm (eK (.int 4)) (e2 ki (eK (.int 2)) (eV 6))) aN))) (aC (eV 6) aN)))) (zw (zi7 [9,10,11] (zk xy (aC (ya (aC (eV 1) aN)) (aC (eV 2) (aC (eV 5) (aC (e2 q9 (zk zy (aC (eV 0) (aC (e2 qm (eK (.int 3)) (e2 ki (eK (.int 2)) (eV 6))) aN))) (eK (.int 14))) (aC (eV 8) aN))))))) (zw (zfb 12 (eV 10) (sIf (zcb (bE (zk qi (aC (eV 4) (aC (zk zv (aC (eV 12) aN)) aN))))) (qk (eK (.bl false))) je)) (zw (sIf (zho (bE (e2 ji (eV 11) (eK .non))) (zcb (bE (zk jk (aC (eV 9) (aC (eV 10) (aC (eV 11) aN))))))) (qk (eK (.bl false))) je) (qv 5 (zg9 (eV 5) (eV 10)))))))
theorem zfl(ns:List Int)(hn:ns.length<=63)(kd mo:Nat)(hth:∀c:Int,∃d,Thing k d/\∀S,qu [.lst [.int (kd:Int)],.int c] S=some (d,S)):∀(js:List D),(∀x∈js,∃i:Int,x=.int i/\0<=i/\i<10000)->∀(w:List D) (kn:List (Int×D)) (J:Sto) (u:Nat) (K:List D) (Bd:Nat) (o6 o7 o8 o9 o10 o11 o12:Option D),Kn k w kn->JB J->J[u]? = some (.lst K)->K≠[]->Kp k w Bd K->800<=Bd->Bd+js.length<1800->K.length+2*js.length<1000->kn.length+10000*js.length<800000 ->
   ∃e S',yc 6 mB js (lE ns kd mo (3+u) o6 o7 o8 o9 o10 o11 o12) (Zl k w kn J)=some (.nx e,S')
 | [],_,w,kn,J,u,K,Bd,o6,o7,o8,o9,o10,o11,o12,_,_,_,_,_,_,_,_,_=>⟨_,_,rfl⟩
 | x::js,hj,w,kn,J,u,K,Bd,o6,o7,o8,o9,o10,o11,o12,hk,hJ,hu,hne,kp,hB,hB2,hKl,hkl=>by
   obtain⟨i,rfl,i0,i1⟩:=hj x (z1j ..);rw[List.length_cons]at hB2 hKl hkl;obtain⟨ca,hca⟩:=zbu ns hn (q:=4+2*i) (by omega) (by omega);obtain⟨cb,hcb⟩:=zbu ns hn (q:=3+2*i) (by omega) (by omega);obtain⟨c,_,_,hc⟩:=zb7 ca (q:=i) (by omega) (by omega);obtain⟨v,hv,ev⟩:=zba cb (c:=14) (by decide);obtain⟨rs,fs,tD,new,S1,cd,dx⟩:=zsj (S:=Zl k w kn J) (n:=0+(w.length:Int)) (T:=.lst [.int (kd:Int)]) (j:=3+u) rfl kp hne (zta hu) hB (by omega) hth v c;have eT:=zs9 dx.wt;subst eT;have fk:∀d∈fs,∃ts h,Mk k d ts h/\ts.length<=2000/\All (U (w++new)) d:=fun d hd=>by obtain⟨ts,h,m,l,a⟩:=dx.fk d hd;exact⟨ts,h,m,by omega,zp5 a⟩
   have fl:=dx.fl;obtain⟨kn',J2,o12',lp,k',j',l'⟩:=zlq (w:=w++new) ns kd mo (3+u) (some (.int i)) o7 (some (.int c)) (some (.lst rs)) (some (.lst fs)) (some tD) fs fk kn J o12 hk.up hJ (by omega);have kp':Kp k (w++new) (Bd+1) (K++fs):=fun d hd=>by
     rcases z1p.mp hd with q | q
     · exact kp.up d q
     · obtain⟨ts,h,m,l,a⟩:=dx.fk d q;exact⟨ts,h,m,l,zp5 a⟩
   have hul:u<J.length:=(z06.mp hu).1;have hu2:(J++J2)[u]? = some (.lst K):=by rw[z1k hul];exact hu
   have sb:=zs8 k' j';have zl:(Zl k (w++new) kn' (J++J2)).length=3+(J++J2).length:=by have b2:(Bz k (w++new)).length=2:=rfl;unfold Zl;rw[z03,List.length_cons,b2];omega
   obtain⟨e,S',ih⟩:=zfl ns hn kd mo hth js (fun x hx=>hj x (z09 _ hx)) (w++new) kn' (J++J2++[.lst (K++fs)]) (J++J2).length (K++fs) (Bd+1) (some (.int i)) o7 (some (.int c)) (some (.lst rs)) (some (.lst fs)) (some tD) o12' k' (j'.add (zu5 kp')) (by simp) (by simp[hne]) kp' (by omega) (by omega) (by rw[z03];omega) (by omega);have fw:zho (bE (e2 ji (eV 11) (eK .non))) (zcb (bE (zk jk (aC (eV 9) (aC (eV 10) (aC (eV 11) aN)))))) (lE ns kd mo (3+u) (some (.int i)) o7 (some (.int c)) (some (.lst rs)) (some (.lst fs)) (some tD) o12') (Zl k (w++new) kn' (J++J2))=some (false,Zl k (w++new) kn' (J++J2)):=by
     rcases dx.tm with q | ⟨tm,q,_⟩
     · subst q;exact zix (jb (e_2 (e_v rfl) e_k rfl))
     · subst q;exact zb3 (jb (e_2 (e_v rfl) e_k rfl)) (zop (jb (zg (a_c (e_v rfl) (a_c (e_v rfl) (a_c (e_v rfl) a_n))) (zvm dx (by omega) sb))))
   have last:qv 5 (zg9 (eV 5) (eV 10)) (lE ns kd mo (3+u) (some (.int i)) o7 (some (.int c)) (some (.lst rs)) (some (.lst fs)) (some tD) o12') (Zl k (w++new) kn' (J++J2))=some (.nx (lE ns kd mo (3+(J++J2).length) (some (.int i)) o7 (some (.int c)) (some (.lst rs)) (some (.lst fs)) (some tD) o12'),Zl k (w++new) kn' (J++J2++[.lst (K++fs)])):=by have:=zwr (ev:=lE ns kd mo (3+u) (some (.int i)) o7 (some (.int c)) (some (.lst rs)) (some (.lst fs)) (some tD) o12') (q:=5) (v:=3+u) (g:=eV 10) rfl (zta (k:=k) (w:=w++new) (kn:=kn') hu2) (e_v rfl) (by omega);rw[zl]at this;refine(zo this).trans ?_;show some (Out.nx _,Bz k (w++new)++.dct kn'::(J++J2)++[_])=some (Out.nx _,Bz k (w++new)++.dct kn'::(J++J2++[_]));rw[z2r,List.cons_append];rfl
   exact⟨e,S',yi (zh (zo (zg (a_c (zg (a_c (e_v rfl) (a_c (e_2 e_k (e_2 e_k (e_v rfl) (zai (by decide))) (add_int _ _)) a_n)) (hca _)) (a_c (e_v rfl) a_n)) (hc _))) (zh (zm4 (zg (a_c (xz (a_c (e_v rfl) a_n) (z04 rfl)) (a_c (e_v rfl) (a_c (e_v rfl) (a_c (e_2 (zg (a_c (e_v rfl) (a_c (e_2 e_k (e_2 e_k (e_v rfl) (zai (by decide))) (add_int _ _)) a_n)) (hcb _)) e_k ev) (a_c (e_v rfl) a_n))))) cd)) (zh (zgm (b:=iB) (e_v rfl) lp) (zh (zp fw) last)))) ih⟩
def zyt:C:=(zw (qv 7 (zk jr (aC (ya (aC (eV 1) aN)) (aC (zk zy (aC (eV 0) (aC (e2 qm (eK (.int 1)) (eV 6)) aN))) (aC (eV 3) aN))))) (zw (jz (eV 5) (zk xf (aC (eV 2) (aC (eV 7) aN)))) (sIf (zcb (bE (zk qi (aC (eV 4) (aC (zk zv (aC (e2s qf (eV 5) (eV 6)) aN)) aN))))) (qk (eK (.bl false))) je)))
theorem zdr(ns:List Int)(hn:ns.length<=63)(kd mo:Nat)(hmo:mo<=500)(hth:∀c:Int,∃d,Thing k d/\∀S,qu [.lst [.int (kd:Int)],.int c] S=some (d,S)){G:Sto}(hk:Kn k w kn)(hJ:JB (.lst K::G))(kp:Kp k w 800 K)(hK:K.length<=1)(hl:kn.length<=10000)(o7:Option D) :
   ∃d w' kn' f o7',zyt (lE ns kd mo 3 (some (.int (K.length:Int))) o7 none none none none none) (Zl k w kn (.lst K::G))=some (.nx (lE ns kd mo 3 (some (.int (K.length:Int))) o7' none none none none none),Zl k w' kn' (.lst (K++[d])::(G++[f])))/\Kn k w' kn'/\JB (.lst (K++[d])::(G++[f]))/\Kp k w' 800 (K++[d])/\kn'.length<=kn.length+5000:=by
 obtain⟨c,hc⟩:=zbu ns hn (q:=1+(K.length:Int)) (by omega) (by omega);obtain⟨ts,tl,tt,ct⟩:=zj4 (k:=k) (T:=.lst [.int (kd:Int)]) hth c (M:=mo) (by omega);obtain⟨d,h,new,T1,cm,rr⟩:=zdp (k:=k) (i:=1) (n:=0+(w.length:Int)) (P:=U w) (S:=Zl k w kn (.lst K::G)) rfl tt (by omega);have eT:=zs9 rr.wt;subst eT;have al:All (U (w++new)) d:=zzk rr.all;have kp':Kp k (w++new) 800 (K++[d]):=fun z hz=>by
   rcases z1p.mp hz with q | q
   · obtain⟨ts,h,m,l,a⟩:=kp z q;exact⟨ts,h,m,l,zbg a⟩
   · rw[z05.mp q];exact⟨ts,h,rr.mm,by omega,al⟩
 have hJ1:JB (.lst (K++[d])::G):=fun m hm=>by
   rcases z1e.mp hm with rfl | hm
   · exact zu5 kp'
   · exact hJ m (z09 _ hm)
 have s7:qv 7 (zk jr (aC (ya (aC (eV 1) aN)) (aC (zk zy (aC (eV 0) (aC (e2 qm (eK (.int 1)) (eV 6)) aN))) (aC (eV 3) aN)))) (lE ns kd mo 3 (some (.int (K.length:Int))) o7 none none none none none) (Zl k w kn (.lst K::G))=some (.nx (lE ns kd mo 3 (some (.int (K.length:Int))) (some (.lst ts)) none none none none none),Zl k w kn (.lst K::G)):=zo (zg (a_c (xz (a_c (e_v rfl) a_n) (z04 rfl)) (a_c (zg (a_c (e_v rfl) (a_c (e_2 e_k (e_v rfl) (add_int _ _)) a_n)) (hc _)) (a_c (e_v rfl) a_n))) (ct _));have ap:jz (eV 5) (zk xf (aC (eV 2) (aC (eV 7) aN))) (lE ns kd mo 3 (some (.int (K.length:Int))) (some (.lst ts)) none none none none none) (Zl k w kn (.lst K::G))=some (.nx (lE ns kd mo 3 (some (.int (K.length:Int))) (some (.lst ts)) none none none none none),Zl k (w++new) kn (.lst (K++[d])::G)):=(zdk (q:=5) (j:=3) (vs:=K) (us:=K) rfl rfl (zg (a_c (e_v rfl) (a_c (e_v rfl) a_n)) cm) rfl (by omega)).trans rfl;obtain⟨kn',f,c1,k1,j1,l1⟩:=zh9 (k:=k) (w:=w++new) (J:=.lst (K++[d])::G) (ev:=lE ns kd mo 3 (some (.int (K.length:Int))) (some (.lst ts)) none none none none none) (ex:=e2s qf (eV 5) (eV 6)) (d:=d) hk.up hJ1 (by omega) rfl (qj (e_v rfl) (e_v rfl) (zyk (K:=K++[d]) (q:=K.length) rfl (by simp))) rr.mm (by omega) al;exact⟨d,w++new,kn',f,some (.lst ts),zh s7 (zh ap (zp (zop (jb c1)))),k1,j1,kp',l1⟩
def zxu:C:=(zw (qv 3 (eK (.int 30))) (zw (sIf (bE (e2 zdc (e2 q9 (e2 yb (zk zy (aC (eV 0) (aC (eK (.int 0)) aN))) (eK (.int 4))) (eK (.int 3))) (eK (.int 1)))) (qv 3 (eK (.int 500))) je) (zw (sIf (zcb (bE (zk j7 (aC (eV 0) (aC (eV 3) aN))))) (qk (eK (.bl false))) je) (zw (qv 4 zjj) (zw (qv 5 (zfx aN)) (zw (zgo 6 (eK (.int 2)) (zw (qv 7 (zk jr (aC (ya (aC (eV 1) aN)) (aC (zk zy (aC (eV 0) (aC (e2 qm (eK (.int 1)) (eV 6)) aN))) (aC (eV 3) aN))))) (zw (jz (eV 5) (zk xf (aC (eV 2) (aC (eV 7) aN)))) (sIf (zcb (bE (zk qi (aC (eV 4) (aC (zk zv (aC (e2s qf (eV 5) (eV 6)) aN)) aN))))) (qk (eK (.bl false))) je)))) (zw (zgo 6 (eK (.int 10)) (zw (qv 8 (zk z9 (aC (zk zy (aC (eV 0) (aC (e2 qm (eK (.int 4)) (e2 ki (eK (.int 2)) (eV 6))) aN))) (aC (eV 6) aN)))) (zw (zi7 [9,10,11] (zk xy (aC (ya (aC (eV 1) aN)) (aC (eV 2) (aC (eV 5) (aC (e2 q9 (zk zy (aC (eV 0) (aC (e2 qm (eK (.int 3)) (e2 ki (eK (.int 2)) (eV 6))) aN))) (eK (.int 14))) (aC (eV 8) aN))))))) (zw (zfb 12 (eV 10) (sIf (zcb (bE (zk qi (aC (eV 4) (aC (zk zv (aC (eV 12) aN)) aN))))) (qk (eK (.bl false))) je)) (zw (sIf (zho (bE (e2 ji (eV 11) (eK .non))) (zcb (bE (zk jk (aC (eV 9) (aC (eV 10) (aC (eV 11) aN))))))) (qk (eK (.bl false))) je) (qv 5 (zg9 (eV 5) (eV 10)))))))) (qk (eK (.bl true))))))))))
theorem zkk(ns:List Int)(hn:ns.length<=63)(kd:Nat)(hth:∀c:Int,∃d,Thing k d/\∀S,qu [.lst [.int (kd:Int)],.int c] S=some (d,S)):∃S',zxu [some (.lst (ns.map D.int)),some (.int (kd:Int)),some (.obj 1),none,none,none,none,none,none,none,none,none,none] [tK,wd (x6 k) 0]=some (.rt (.bl true),S'):=by
 obtain⟨c0,hc0⟩:=zbu ns hn (q:=0) (by decide) (by decide);obtain⟨mo,hmo,r4⟩:∃mo:Nat,mo<=500/\sIf (bE (e2 zdc (e2 q9 (e2 yb (zk zy (aC (eV 0) (aC (eK (.int 0)) aN))) (eK (.int 4))) (eK (.int 3))) (eK (.int 1)))) (qv 3 (eK (.int 500))) je [some (.lst (ns.map D.int)),some (.int (kd:Int)),some (.obj 1),some (.int ((30:Nat):Int)),none,none,none,none,none,none,none,none,none] [tK,wd (x6 k) 0]=some (.nx [some (.lst (ns.map D.int)),some (.int (kd:Int)),some (.obj 1),some (.int (mo:Int)),none,none,none,none,none,none,none,none,none],[tK,wd (x6 k) 0]):=by
   have t:=jb (S:=[tK,wd (x6 k) 0]) (ev:=[some (.lst (ns.map D.int)),some (.int (kd:Int)),some (.obj 1),some (.int ((30:Nat):Int)),none,none,none,none,none,none,none,none,none]) (e_2 (e_2 (e_2 (zg (a_c (e_v (i:=0) rfl) (a_c (e_k (d:=.int 0)) a_n)) (hc0 _)) (e_k (d:=.int 4)) (zen (by decide))) (e_k (d:=.int 3)) (za3 (by decide))) (e_k (d:=.int 1)) (zyy _ _));by_cases q:c0/4%3=1
   · exact⟨500,by omega,qh (t.trans (by rw[z1c q])) (zo e_k)⟩
   · exact⟨30,by omega,zp (t.trans (by rw[z1b q]))⟩
 have cs:=zqt (av:=x6 k) (n0:=0) ns hn addv_b.1 addv_b.2 hmo;have z0:Kn k [] ([]:List (Int×D)):=fun p hp=>by cases hp
 have j0:JB [MO.lst []]:=fun m hm=>by rw[z05.mp hm];rfl
 obtain⟨d1,w1,kn1,f1,o71,b1,k1,jb1,kp1,l1⟩:=zdr (k:=k) (w:=[]) (kn:=[]) (K:=[]) (G:=[]) ns hn kd mo hmo hth z0 j0 (fun z hz=>by cases hz) (by decide) (by decide) none;obtain⟨d2,w2,kn2,f2,o72,b2,k2,jb2,kp2,l2⟩:=zdr (k:=k) (w:=w1) (kn:=kn1) (K:=[]++[d1]) (G:=[]++[f1]) ns hn kd mo hmo hth k1 jb1 kp1 (by simp) (by simp at l1;omega) o71;have lp1:yc 6 zyt (qo 0 (2:Int).toNat) (lE ns kd mo 3 none none none none none none none) (Zl k [] [] [.lst []])=some (.nx (lE ns kd mo 3 (some (.int 1)) o72 none none none none none),Zl k w2 kn2 (.lst ([]++[d1]++[d2])::([]++[f1]++[f2]))):=by rw[show qo 0 (2:Int).toNat=[.int 0,.int 1]from rfl];exact yi b1 (yi b2 rfl)
 obtain⟨e,S',lp2⟩:=zfl (k:=k) ns hn kd mo hth (qo 0 (10:Int).toNat) (rng (by decide)) w2 kn2 (.lst ([]++[d1]++[d2])::([]++[f1]++[f2])) 0 ([]++[d1]++[d2]) 800 (some (.int 1)) o72 none none none none none k2 jb2 rfl (by simp) kp2 (by decide) (by rw[show(qo 0 (10:Int).toNat).length=10 from rfl];decide) (by rw[show(qo 0 (10:Int).toNat).length=10 from rfl];simp) (by rw[show(qo 0 (10:Int).toNat).length=10 from rfl];simp at l1;omega);exact⟨S',zh (zo e_k) (zh r4 (zh (zp (zop (jb (zg (a_c (e_v rfl) (a_c (e_v rfl) a_n)) cs)))) (zh (zo (d:=.obj 2) (S1:=[tK,wd (x6 k) 0,.dct []]) rfl) (zh (zo (d:=.obj 3) (S1:=Zl k [] [] [.lst []]) rfl) (zh (zj8 (n:=2) (b:=zyt) e_k (by decide) (by decide) lp1) (zh (zj8 (n:=10) (b:=mB) e_k (by decide) (by decide) lp2) (zt e_k)))))))⟩
theorem law_ok:zp8 tabs g_law:=by
 intro ns hn;obtain⟨c0,hc0⟩:=zbu ns hn (q:=0) (by decide) (by decide);obtain⟨kd,hkd,ekd⟩:=zba (c0/12) (c:=2) (by decide);have hth:=fun c=>zm1 kd hkd c;have s1:qv 1 (e2 q9 (e2 yb (zk zy (aC (eV 0) (aC (eK (.int 0)) aN))) (eK (.int 12))) (eK (.int 2))) [some (.lst (ns.map D.int)),none,none,none,none,none,none,none,none,none,none,none,none] [tK]=some (.nx [some (.lst (ns.map D.int)),some (.int (kd:Int)),none,none,none,none,none,none,none,none,none,none,none],[tK]):=zo (e_2 (e_2 (zg (a_c (e_v rfl) (a_c e_k a_n)) (hc0 _)) e_k (zen (by decide))) e_k ekd);have:kd=0\/kd=1:=by omega
 rcases this with rfl | rfl
 · obtain⟨S',r⟩:=zkk (k:=0) ns hn 0 hth;exact⟨S',jl rfl (zh s1 (zh (zo (zos (qj (xz (a_c e_k (a_c e_k a_n)) (z04 rfl)) (e_v rfl) rfl))) r))⟩
 · obtain⟨S',r⟩:=zkk (k:=2) ns hn 1 hth;exact⟨S',jl rfl (zh s1 (zh (zo (zos (qj (xz (a_c e_k (a_c e_k a_n)) (z04 rfl)) (e_v rfl) rfl))) r))⟩
end Pg
namespace Pg
open PySem L2 F PySem.Spec PyProof.Rows
variable {P:Program}{w:World}{K:zFr}{mg:zMg}{base:Heap}{f:Addr}{cdv:Value}{A:Around}{outer:List Env}{s:Shared}{H:Hp}{E:XK}
seal F.FE F.FB F.FW F.FA F.FS F.FSs
def top(i:Nat):Stmt:=PySem.Challenge.pw_ownshelf_k60_whole_makes_share_nodes.main.body.getD i (.Pass ⟨0,0,0,0⟩)
theorem _root_.L2.FnScope.auto7{N P:List Str}{sc:Scope}(h1:sc.kind=.function:=by rfl)(h2:sc.isCoroutine=false:=by rfl)(h3:sc.isGenerator=false:=by rfl)(h4:N.Nodup:=by decide +kernel)(h5:N.take P.length=P:=by rfl)(h6:∀x∈P,sc.names.lookup x=some .local\/sc.names.lookup x=some .cell:=by decide +kernel)(h7:∀y∈sc.names,y.2≠.free:=by decide +kernel):L2.FnScope N P sc:=⟨h1,h2,h3,h4,h5,h6,h7⟩
theorem _root_.L2.Room.rmd{j k:Nat}{A:Around}(r:Room k A)(h:j<=k:=by decide):Room j A:=r.mono h
abbrev s_Wood___init__:Stmt:=zd8 (top 40) 0
abbrev s__law_cell:Stmt:=top 74
abbrev s__law_size:Stmt:=top 87
abbrev s__law_mixed:Stmt:=top 75
abbrev s__law_thing:Stmt:=top 79
abbrev s_check_place:Stmt:=top 42
abbrev s_Wood_numbered:Stmt:=zd8 (top 40) 4
abbrev s_check_room:Stmt:=top 39
abbrev s_height:Stmt:=top 15
abbrev s_height_above:Stmt:=top 21
abbrev s_in_balance:Stmt:=top 22
abbrev s_size:Stmt:=top 14
abbrev s_size_above:Stmt:=top 20
abbrev s__law_before:Stmt:=top 89
abbrev s__law_joined:Stmt:=top 76
abbrev s_back:Stmt:=top 17
abbrev s_backward_sum:Stmt:=top 25
abbrev s_total:Stmt:=top 16
abbrev s_onward_sum:Stmt:=top 24
abbrev s_sums_above:Stmt:=top 23
abbrev s_Wood_node:Stmt:=zd8 (top 40) 2
abbrev s_Wood_turned:Stmt:=zd8 (top 40) 3
abbrev s_parts:Stmt:=top 18
abbrev s_lifted_left:Stmt:=top 29
abbrev s_lifted_right:Stmt:=top 30
abbrev s_balanced:Stmt:=top 28
abbrev s_joined:Stmt:=top 27
abbrev s_cut_ahead:Stmt:=top 57
abbrev s_cut:Stmt:=top 56
abbrev s_seen:Stmt:=top 19
abbrev s_thing_at:Stmt:=top 47
abbrev s_laid_together:Stmt:=top 55
abbrev s_taken_out:Stmt:=top 51
abbrev s_laid:Stmt:=top 54
abbrev s_out:Stmt:=top 50
abbrev s_check_stretch:Stmt:=top 43
abbrev s_part:Stmt:=top 58
abbrev s_put_in:Stmt:=top 49
abbrev s_put:Stmt:=top 48
abbrev s_given:Stmt:=top 53
abbrev s_swapped:Stmt:=top 52
abbrev s_turned_part:Stmt:=top 59
abbrev s__law_deed:Stmt:=top 88
abbrev s__law_high:Stmt:=top 85
abbrev s__law_of_nodes:Stmt:=top 81
abbrev s__law_few:Stmt:=top 86
abbrev s__law_number:Stmt:=top 82
abbrev s__law_told:Stmt:=top 83
abbrev s__law_one_node:Stmt:=top 84
abbrev s_at:Stmt:=top 46
abbrev s_is_alike_at:Stmt:=top 63
abbrev s_count_before:Stmt:=top 62
abbrev s_place_of:Stmt:=top 61
abbrev s_added:Stmt:=top 64
abbrev s_place_of_alike:Stmt:=top 66
abbrev s_dropped:Stmt:=top 65
abbrev s_built:Stmt:=top 45
abbrev s_make_of:Stmt:=top 44
abbrev s_by_key:Stmt:=top 69
abbrev s_with_value:Stmt:=top 71
abbrev s_sought:Stmt:=top 70
abbrev s_without:Stmt:=top 72
abbrev s__law_sets_too:Stmt:=top 90
abbrev s__law_things:Stmt:=top 80
abbrev s_law:Stmt:=top 91
structure TX (K:zFr) (mg:zMg) (base:Heap):Prop where
 ugv:mg "abs"=none
 uba:mg "len"=none
 ugm:mg "list"=none
 uft:mg "max"=none
 ua5:mg "range"=none
 ucy:∃t,mg "ABOUT"=some (.int 1 t)
 uaa:∃t,mg "AHEAD"=some (.int 0 t)
 ugp:∃t,mg "BACK"=some (.int 8 t)
 uac:∃t,mg "BEHIND"=some (.int 2 t)
 ufr:∃t,mg "HEIGHT"=some (.int 6 t)
 ufv:∃t,mg "KEY"=some (.int 0 t)
 ubn:∃t,mg "LEFT"=some (.int 2 t)
 uad:∃t,mg "MIDDLE"=some (.int 1 t)
 udl:∃t,mg "MOST_THINGS"=some (.int 2000 t)
 ubd:∃t,mg "RIGHT"=some (.int 4 t)
 ugf:∃t,mg "SIZE"=some (.int 5 t)
 ube:∃t,mg "THING"=some (.int 3 t)
 uf0:∃t,mg "TOTAL"=some (.int 7 t)
 ubh:∃t,mg "TURNED"=some (.int 3 t)
 ubi:Fld K mg "Wood" "adding"
 uap:Fld K mg "Wood" "nodes_made"
 blt:zmt base mg
 ubb:HasMk K mg "Wood" "Wood.__init__" s_Wood___init__ 1
 ueg:HasDef K mg "_law_cell" s__law_cell 0
 ueb:HasDef K mg "_law_size" s__law_size 0
 ud1:HasDef K mg "_law_mixed" s__law_mixed 0
 udq:HasDef K mg "_law_thing" s__law_thing 0
 uc6:HasDef K mg "check_place" s_check_place 0
 ucf:HasMth K mg "Wood" "numbered" "Wood.numbered" s_Wood_numbered
 udp:HasDef K mg "check_room" s_check_room 0
 ufd:HasDef K mg "height" s_height 0
 uci:HasDef K mg "height_above" s_height_above 0
 uds:HasDef K mg "in_balance" s_in_balance 0
 uge:HasDef K mg "size" s_size 0
 ud6:HasDef K mg "size_above" s_size_above 0
 uaj:HasDef K mg "_law_before" s__law_before 0
 ubj:HasDef K mg "_law_joined" s__law_joined 0
 ugb:HasDef K mg "back" s_back 0
 uct:HasDef K mg "backward_sum" s_backward_sum 0
 ufx:HasDef K mg "total" s_total 0
 ud8:HasDef K mg "onward_sum" s_onward_sum 0
 ud4:HasDef K mg "sums_above" s_sums_above 0
 uec:HasMth K mg "Wood" "node" "Wood.node" s_Wood_node
 udn:HasMth K mg "Wood" "turned" "Wood.turned" s_Wood_turned
 uf3:HasDef K mg "parts" s_parts 0
 udk:HasDef K mg "lifted_left" s_lifted_left 0
 ucn:HasDef K mg "lifted_right" s_lifted_right 0
 uev:HasDef K mg "balanced" s_balanced 0
 udt:HasDef K mg "joined" s_joined 0
 ubr:HasDef K mg "cut_ahead" s_cut_ahead 0
 ugt:HasDef K mg "cut" s_cut 0
 ugq:HasDef K mg "seen" s_seen 0
 uca:HasDef K mg "thing_at" s_thing_at 0
 ub8:HasDef K mg "laid_together" s_laid_together 0
 ubt:HasDef K mg "taken_out" s_taken_out 0
 ugo:HasDef K mg "laid" s_laid 0
 ugs:HasDef K mg "out" s_out 0
 ub5:HasDef K mg "check_stretch" s_check_stretch 0
 ugi:HasDef K mg "part" s_part 0
 udv:HasDef K mg "put_in" s_put_in 0
 ugr:HasDef K mg "put" s_put 0
 uen:HasDef K mg "given" s_given 0
 ue5:HasDef K mg "swapped" s_swapped 0
 udc:HasDef K mg "turned_part" s_turned_part 0
 uel:HasDef K mg "_law_deed" s__law_deed 0
 ueh:HasDef K mg "_law_high" s__law_high 0
 ucg:HasDef K mg "_law_of_nodes" s__law_of_nodes 0
 uet:HasDef K mg "_law_few" s__law_few 0
 uda:HasDef K mg "_law_number" s__law_number 0
 ued:HasDef K mg "_law_told" s__law_told 0
 ub9:HasDef K mg "_law_one_node" s__law_one_node 0
 ugx:HasDef K mg "at" s_at 0
 uc9:HasDef K mg "is_alike_at" s_is_alike_at 0
 ubf:HasDef K mg "count_before" s_count_before 0
 uew:HasDef K mg "place_of" s_place_of 0
 ufy:HasDef K mg "added" s_added 0
 ub2:HasDef K mg "place_of_alike" s_place_of_alike 0
 uey:HasDef K mg "dropped" s_dropped 0
 ueo:HasDef K mg "built" s_built 0
 ue7:HasDef K mg "make_of" s_make_of 0
 ufm:HasDef K mg "by_key" s_by_key 0
 ud5:HasDef K mg "with_value" s_with_value 0
 ufl:HasDef K mg "sought" s_sought 0
 ufa:HasDef K mg "without" s_without 0
 ucc:HasDef K mg "_law_sets_too" s__law_sets_too 0
 udh:HasDef K mg "_law_things" s__law_things 0
 ugz:HasDef K mg "law" s_law 0
theorem z0j:CloScope ["one", "other"] ["before"] lt_0.scope:=⟨rfl,rfl,rfl,by decide +kernel,(z2u.mpr ⟨rfl,(z2u.mpr ⟨rfl,(fun _ h=>nomatch h)⟩)⟩),(z2u.mpr ⟨rfl,(fun _ h=>nomatch h)⟩),by decide +kernel,by decide +kernel⟩
theorem z0v(T:TX K mg base)(hft:∀x g,ft x=some g->Cal P w K mg base 1 x g)(hct1:∀t g,zjo t=some g->CCal P w K mg base 1 t g){a c:Addr}{cl:zLA}{A:Around}{outer:List Env}{s:Shared}{H H1:Hp}{E:XK}(hr:Room 1 (A.deeper (PySem.W.envX lt_0.qual lt_0.scope s.heap.objs.size a (.ref c) cl))) :
   FE (cxC P w K mg base ["one", "other", "before"] lt_0.qual lt_0.scope a (.ref c) cl A outer s H H1 E).nox lt_0.body zyq:=by
 exact(zeh (fun x g e=>(hft x g e).mono (by decide)) (fun _ _ h=>by cases h) hct1 hr.rmd (zf 2) (za (zr (zf 0) (zx T.ufv)) (za (zr (zf 1) (zx T.ufv)) zb)))
theorem z0q(T:TX K mg base)(hft:∀x g,ft x=some g->Cal P w K mg base 1 x g)(hct1:∀t g,zjo t=some g->CCal P w K mg base 1 t g):CCal P w K mg base 2 lt_0 zw5:=CCal.of (t:=lt_0) (ps:=["one", "other"]) (k:=1) (f:=zyq) z0j rfl (fun _ _ _ _=>ls2 fun _ _=>rfl) (fun a c cl A outer s H H1 E hr=>z0v T hft hct1 hr)
theorem sc_Wood___init__:FnScope ["self", "add"] ["self", "add"] (zj s_Wood___init__):=.auto7
theorem zar(T:TX K mg base)(hr:Room 0 (A.deeper (envOfC "Wood.__init__" (zj s_Wood___init__) s.heap.objs.size f cdv))) :
   FSs (zgj CX0 P w K mg base ["self", "add"] "Wood.__init__" (zj s_Wood___init__) f cdv A outer s H E).nox (xk s_Wood___init__) k9:=by
 have nd:=sc_Wood___init__.nd;exact(zd (zlz T.ubi (zf 0) (zf 1)) (zi (zlz T.uap (zf 0) zm)))
theorem zb4(T:TX K mg base):Mak P w K mg base 1 "Wood" qx:=T.ubb.mk1 sc_Wood___init__ (fun _ _ _ _ _ _ _=>ls2 fun _ _=>⟨_,rfl,rfl⟩) (fun f cdv A outer s H E hr=>zar T  hr)
theorem zb5(T:TX K mg base):Mak P w K mg base 1 "Wood" (zv9 1 qx):=T.ubb.mk1d sc_Wood___init__ rfl (fun _ _ _ _ _ _ _=>ls1 fun _=>⟨_,rfl,rfl⟩) (fun f cdv A outer s H E hr=>zar T  hr)
theorem sc__law_cell:FnScope ["_law_script", "_law_k", "_law_number_here"] ["_law_script", "_law_k"] (zj s__law_cell):=.auto7
theorem sc__law_size:FnScope ["_law_make"] ["_law_make"] (zj s__law_size):=.auto7
theorem sc__law_mixed:FnScope ["_law_cell_here", "_law_k", "_law_number_here"] ["_law_cell_here", "_law_k"] (zj s__law_mixed):=.auto7
theorem sc__law_thing:FnScope ["_law_script", "_law_cell_here", "_law_way_here"] ["_law_script", "_law_cell_here"] (zj s__law_thing):=.auto7
theorem sc_check_place:FnScope ["place", "end"] ["place", "end"] (zj s_check_place):=.auto7
theorem sc_Wood_numbered:FnScope ["self", "rest", "number"] ["self", "rest"] (zj s_Wood_numbered):=.auto7
theorem sc_check_room:FnScope ["things"] ["things"] (zj s_check_room):=.auto7
theorem sc_height:FnScope ["make"] ["make"] (zj s_height):=.auto7
theorem sc_height_above:FnScope ["left", "right"] ["left", "right"] (zj s_height_above):=.auto7
theorem sc_in_balance:FnScope ["left", "right"] ["left", "right"] (zj s_in_balance):=.auto7
theorem sc_size:FnScope ["make"] ["make"] (zj s_size):=.auto7
theorem sc_size_above:FnScope ["left", "right"] ["left", "right"] (zj s_size_above):=.auto7
theorem sc__law_before:FnScope ["_law_one", "_law_other"] ["_law_one", "_law_other"] (zj s__law_before):=.auto7
theorem sc__law_joined:FnScope ["_law_one", "_law_other"] ["_law_one", "_law_other"] (zj s__law_joined):=.auto7
theorem sc_back:FnScope ["make"] ["make"] (zj s_back):=.auto7
theorem sc_backward_sum:FnScope ["add", "left", "thing", "right", "result"] ["add", "left", "thing", "right"] (zj s_backward_sum):=.auto7
theorem sc_total:FnScope ["make"] ["make"] (zj s_total):=.auto7
theorem sc_onward_sum:FnScope ["add", "left", "thing", "right", "result"] ["add", "left", "thing", "right"] (zj s_onward_sum):=.auto7
theorem sc_sums_above:FnScope ["add", "left", "thing", "right"] ["add", "left", "thing", "right"] (zj s_sums_above):=.auto7
theorem sc_Wood_node:FnScope ["self", "left", "thing", "right", "things", "measures", "sums"] ["self", "left", "thing", "right"] (zj s_Wood_node):=.auto7
theorem sc_Wood_turned:FnScope ["self", "make", "row"] ["self", "make"] (zj s_Wood_turned):=.auto7
theorem sc_parts:FnScope ["wood", "make", "ahead", "behind"] ["wood", "make"] (zj s_parts):=.auto7
theorem sc_lifted_left:FnScope ["wood", "left", "thing", "right", "outer", "inner", "ahead", "behind"] ["wood", "left", "thing", "right"] (zj s_lifted_left):=.auto7
theorem sc_lifted_right:FnScope ["wood", "left", "thing", "right", "outer", "inner", "ahead", "behind"] ["wood", "left", "thing", "right"] (zj s_lifted_right):=.auto7
theorem sc_balanced:FnScope ["wood", "left", "thing", "right"] ["wood", "left", "thing", "right"] (zj s_balanced):=.auto7
theorem sc_joined:FnScope ["wood", "left", "thing", "right", "row"] ["wood", "left", "thing", "right"] (zj s_joined):=.auto7
theorem sc_cut_ahead:FnScope ["wood", "make", "place", "row", "middle", "halves"] ["wood", "make", "place"] (zj s_cut_ahead):=.auto7
theorem sc_cut:FnScope ["wood", "make", "place"] ["wood", "make", "place"] (zj s_cut):=.auto7
theorem sc_seen:FnScope ["make", "turned"] ["make", "turned"] (zj s_seen):=.auto7
theorem sc_thing_at:FnScope ["make", "turned", "place", "row", "middle"] ["make", "turned", "place"] (zj s_thing_at):=.auto7
theorem sc_laid_together:FnScope ["wood", "one", "other"] ["wood", "one", "other"] (zj s_laid_together):=.auto7
theorem zc0(T:TX K mg base)(uay:Cal P w K mg base (7+40) "joined" (kj 40))(uao:Cal P w K mg base (2+40) "thing_at" (xo 40)){self:G}{n:Nat}(hself:Cal P w K mg base (48+2*n) "taken_out" self)(hr0:Room (48+2*n) (A.deeper (envOfC "laid_together" (zj s_laid_together) s.heap.objs.size f cdv))) :
   FSs (zgj CX0 P w K mg base ["wood", "one", "other"] "laid_together" (zj s_laid_together) f cdv A outer s H E).nox (xk s_laid_together) (zat self):=by
 have nd:=sc_laid_together.nd;have hr:=hr0.mono (z2b 48 (2*n));exact(zd (qq (zbt (zf 1) ja) (zi (zn (zf 2))) zq) (zd (qq (zbt (zf 2) ja) (zi (zn (zf 1))) zq) (zi (zn (ze uay hr.rmd (za (zf 0) (za (zf 1) (za (ze uao hr.rmd (za (zf 2) (za zan (za zm zb)))) (za (ze hself hr0 (za (zf 0) (za (zf 2) (za zm zb)))) zb)))))))))
theorem zac(T:TX K mg base)(uay:Cal P w K mg base (7+40) "joined" (kj 40))(uao:Cal P w K mg base (2+40) "thing_at" (xo 40)){self:G}{n:Nat}(hself:Cal P w K mg base (48+2*n) "taken_out" self):Cal P w K mg base (48+2*n+1) "laid_together" (jv self):=T.ub8.cal sc_laid_together (fun _ _ _ _ _ _=>ls3 fun _ _ _=>rfl) (fun f cdv A outer s H E hr=>zc0 T uay uao hself hr)
theorem sc_taken_out:FnScope ["wood", "make", "place", "row", "middle"] ["wood", "make", "place"] (zj s_taken_out):=.auto7
theorem zhd(T:TX K mg base)(uaw:Cal P w K mg base 6 "balanced" jy)(ubo:Cal P w K mg base 3 "parts" xc)(ucb:Cal P w K mg base 1 "size" jw){self aux:G}{n:Nat}(hself:Cal P w K mg base (48+2*n) "taken_out" self)(haux:Cal P w K mg base (48+2*n+1) "laid_together" aux)(hr0:Room (48+2*n+1) (A.deeper (envOfC "taken_out" (zj s_taken_out) s.heap.objs.size f cdv))) :
   FSs (zgj CX0 P w K mg base ["wood", "make", "place", "row", "middle"] "taken_out" (zj s_taken_out) f cdv A outer s H E).nox (xk s_taken_out) (zc1 self aux):=by
 have nd:=sc_taken_out.nd;have hr1:=hr0.mono (z37 (48+2*n));have hr:=hr1.mono (z2b 48 (2*n));exact(zd (zu 3 (ze ubo hr.rmd (za (zf 0) (za (zf 1) zb))) nd) (zd (zu 4 (ze ucb hr.rmd (za (zr (zf 3) (zx T.uaa)) zb)) nd) (zd (qq (zei (zf 2) (zf 4)) (zi (zn (ze uaw hr.rmd (za (zf 0) (za (ze hself hr1 (za (zf 0) (za (zr (zf 3) (zx T.uaa)) (za (zf 2) zb)))) (za (zr (zf 3) (zx T.uad)) (za (zr (zf 3) (zx T.uac)) zb))))))) zq) (zd (qq (zde (zf 2) (zf 4)) (zi (zn (ze uaw hr.rmd (za (zf 0) (za (zr (zf 3) (zx T.uaa)) (za (zr (zf 3) (zx T.uad)) (za (ze hself hr1 (za (zf 0) (za (zr (zf 3) (zx T.uac)) (za (yq (yq (zf 2) (zf 4)) zm) zb)))) zb))))))) zq) (zi (zn (ze haux hr0 (za (zf 0) (za (zr (zf 3) (zx T.uaa)) (za (zr (zf 3) (zx T.uac)) zb))))))))))
theorem zb0(T:TX K mg base)(uaw:Cal P w K mg base 6 "balanced" jy)(ubo:Cal P w K mg base 3 "parts" xc)(ucb:Cal P w K mg base 1 "size" jw)(uay:Cal P w K mg base (7+40) "joined" (kj 40))(uao:Cal P w K mg base (2+40) "thing_at" (xo 40)):∀n:Nat,Cal P w K mg base (48+2*n) "taken_out" (jp n)
 |0=>T.ubt.none0 (ps:=["wood", "make", "place"]) (fun _ _ _ _ _ _=>ls3 fun _ _ _=>rfl)
 | n+1=>by have ih:=zb0 T uaw ubo ucb uay uao n;exact(show Cal P w K mg base ((48+2*n+1)+1) "taken_out" (jp (n+1))from T.ubt.cal sc_taken_out (fun _ _ _ _ _ _=>ls3 fun _ _ _=>rfl) (fun f cdv A outer s H E hr=>zhd T uaw ubo ucb ih (zac T uay uao ih) hr))
theorem sc_laid:FnScope ["wood", "one", "other"] ["wood", "one", "other"] (zj s_laid):=.auto7
theorem sc_out:FnScope ["wood", "make", "place"] ["wood", "make", "place"] (zj s_out):=.auto7
theorem sc_check_stretch:FnScope ["make", "start", "end"] ["make", "start", "end"] (zj s_check_stretch):=.auto7
theorem sc_part:FnScope ["wood", "make", "start", "end"] ["wood", "make", "start", "end"] (zj s_part):=.auto7
theorem sc_put_in:FnScope ["wood", "make", "place", "thing", "row", "middle"] ["wood", "make", "place", "thing"] (zj s_put_in):=.auto7
theorem sc_put:FnScope ["wood", "make", "place", "thing"] ["wood", "make", "place", "thing"] (zj s_put):=.auto7
theorem sc_given:FnScope ["wood", "make", "place", "thing", "row", "middle"] ["wood", "make", "place", "thing"] (zj s_given):=.auto7
theorem sc_swapped:FnScope ["wood", "make", "place", "thing"] ["wood", "make", "place", "thing"] (zj s_swapped):=.auto7
theorem sc_turned_part:FnScope ["wood", "make", "start", "end", "behind", "ahead", "begin"] ["wood", "make", "start", "end"] (zj s_turned_part):=.auto7
theorem sc__law_deed:FnScope ["_law_script", "_law_wood", "_law_kept", "_law_way_here", "_law_cell_here", "_law_one", "_law_other", "_law_whole", "_law_place", "_law_end"] ["_law_script", "_law_wood", "_law_kept", "_law_way_here", "_law_cell_here"] (zj s__law_deed):=.auto7
theorem sc__law_high:FnScope ["_law_make"] ["_law_make"] (zj s__law_high):=.auto7
theorem sc__law_of_nodes:FnScope ["_law_make", "_law_found", "_law_waiting", "_law_node"] ["_law_make"] (zj s__law_of_nodes):=.auto7
theorem sc__law_few:FnScope ["_law_handed", "_law_found", "_law_times", "_law_old", "_law_most", "_law_make", "_law_number_here", "_law_new"] ["_law_handed", "_law_found", "_law_times"] (zj s__law_few):=.auto7
theorem sc__law_number:FnScope ["_law_make"] ["_law_make"] (zj s__law_number):=.auto7
theorem sc__law_told:FnScope ["_law_node"] ["_law_node"] (zj s__law_told):=.auto7
theorem sc__law_one_node:FnScope ["_law_known", "_law_nodes_found", "_law_number_here", "_law_row"] ["_law_known", "_law_nodes_found"] (zj s__law_one_node):=.auto7
theorem sc_at:FnScope ["make", "place"] ["make", "place"] (zj s_at):=.auto7
theorem sc_is_alike_at:FnScope ["make", "place", "thing", "before"] ["make", "place", "thing", "before"] (zj s_is_alike_at):=.auto7
theorem sc_count_before:FnScope ["make", "turned", "thing", "before", "row"] ["make", "turned", "thing", "before"] (zj s_count_before):=.auto7
theorem sc_place_of:FnScope ["make", "thing", "before"] ["make", "thing", "before"] (zj s_place_of):=.auto7
theorem sc_added:FnScope ["wood", "make", "thing", "before", "place"] ["wood", "make", "thing", "before"] (zj s_added):=.auto7
theorem sc_place_of_alike:FnScope ["make", "thing", "before", "place"] ["make", "thing", "before"] (zj s_place_of_alike):=.auto7
theorem sc_dropped:FnScope ["wood", "make", "thing", "before"] ["wood", "make", "thing", "before"] (zj s_dropped):=.auto7
theorem sc_built:FnScope ["wood", "things", "start", "end", "middle", "left", "right"] ["wood", "things", "start", "end"] (zj s_built):=.auto7
theorem sc_make_of:FnScope ["wood", "things"] ["wood", "things"] (zj s_make_of):=.auto7
theorem zkh:FnScope ["before"] ["before"] (zj s_by_key):=.auto7
theorem zli(T:TX K mg base):Cal P w K mg base 2 "by_key" zaz:=T.ufm.calR zkh (fun _ _ _ _ _ _=>ls1 fun _=>rfl) rfl (fun f cdv hco A outer s H E=>⟨_,(CapsOk.mk rfl rfl (z2u.mpr ⟨rfl,(fun _ h=>nomatch h)⟩) (by decide +kernel) rfl (z2u.mpr ⟨rfl,(fun _ h=>nomatch h)⟩) (fun _ _=>rfl)),zul 0 hco T.blt rfl⟩)
theorem sc_with_value:FnScope ["wood", "make", "key", "value", "before", "pair", "order", "place"] ["wood", "make", "key", "value", "before"] (zj s_with_value):=.auto7
theorem sc_sought:FnScope ["key"] ["key"] (zj s_sought):=.auto7
theorem sc_without:FnScope ["wood", "make", "key", "before"] ["wood", "make", "key", "before"] (zj s_without):=.auto7
theorem sc__law_sets_too:FnScope ["_law_script", "_law_most", "_law_wood", "_law_cell_here", "_law_many", "_law_one", "_law_table", "_law_number_here", "_law_pairs", "_law_make", "_law_found"] ["_law_script", "_law_most"] (zj s__law_sets_too):=.auto7
theorem sc__law_things:FnScope ["_law_script", "_law_cell_here", "_law_most"] ["_law_script", "_law_cell_here", "_law_most"] (zj s__law_things):=.auto7
theorem sc_law:FnScope ["_law_script", "_law_kind", "_law_wood", "_law_most", "_law_known", "_law_kept", "_law_k", "_law_things_here", "_law_cell_here", "_law_handed", "_law_found", "_law_times", "_law_make"] ["_law_script"] (zj s_law):=.auto7
structure CX_law (P:Program) (w:World) (K:zFr) (mg:zMg) (base:Heap):Prop where
 mk ::
 uav:Mak P w K mg base 1 "Wood" qx
 uag:Cal P w K mg base 1 "_law_cell" zy
 ubc:Cal P w K mg base 131 "_law_deed" xy
 ua4:Cal P w K mg base 2 "_law_few" jk
 uah:Cal P w K mg base 1 "_law_mixed" z9
 uai:Cal P w K mg base 1 "_law_of_nodes" zv
 uan:Cal P w K mg base 3 "_law_one_node" qi
 uas:Cal P w K mg base 132 "_law_sets_too" j7
 ua3:Cal P w K mg base 3 "_law_things" jr
 ua0:Cal P w K mg base 46 "make_of" xf
theorem zy4(T:TX K mg base)(C:CX_law P w K mg base)(hr:Room 132 (A.deeper (envOfC "law" (zj s_law) s.heap.objs.size f cdv))) :
   FSs (zgj CX0 P w K mg base ["_law_script", "_law_kind", "_law_wood", "_law_most", "_law_known", "_law_kept", "_law_k", "_law_things_here", "_law_cell_here", "_law_handed", "_law_found", "_law_times", "_law_make"] "law" (zj s_law) f cdv A outer s H E).nox (xk s_law) zwk:=by
 have nd:=sc_law.nd;exact(zd (zu 1 (jx (zbm (ze C.uag hr.rmd (za (zf 0) (za zm zb))) zm) zm) nd) (zd (zu 2 (zr7 C.uav hr.rmd (za (zr (jn (za ja (za (zjh T.ubj.val) zb))) (zf 1)) zb)) nd) (zd (zu 3 zm nd) (zd (qq (zej hr (jx (zbm (ze C.uag hr.rmd (za (zf 0) (za zm zb))) zm) zm) zm) (zi (zu 3 zm nd)) zq) (zd (qq (za5 (yr (ze C.uas hr.rmd (za (zf 0) (za (zf 3) zb))))) (zi (zn zan)) zq) (zd (zu 4 zeg nd) (zd (zu 5 (zg6 zb) nd) (zd (zly 6 nd T.ua5 zm (zd (zu 7 (ze C.ua3 hr.rmd (za (jn (za (zf 1) zb)) (za (ze C.uag hr.rmd (za (zf 0) (za (qz zm (zf 6)) zb))) (za (zf 3) zb)))) nd) (zd (yp (zf 5) (ze C.ua0 hr.rmd (za (zf 2) (za (zf 7) zb)))) (zi (qq (za5 (yr (ze C.uan hr.rmd (za (zf 4) (za (ze C.uai hr.rmd (za (zr (zf 5) (zf 6)) zb)) zb))))) (zi (zn zan)) zq)))) z2i) (zd (zly 6 nd T.ua5 zm (zd (zu 8 (ze C.uah hr.rmd (za (ze C.uag hr.rmd (za (zf 0) (za (qz zm (kz zm (zf 6))) zb))) (za (zf 6) zb))) nd) (zd (zr3 [9,10,11] (yo 9 nd (yo 10 nd (yo 11 nd Names.nil))) (ze C.ubc hr.rmd (za (jn (za (zf 1) zb)) (za (zf 2) (za (zf 5) (za (jx (ze C.uag hr.rmd (za (zf 0) (za (qz zm (kz zm (zf 6))) zb))) zm) (za (zf 8) zb))))))) (zd (zg3 12 nd (zf 10) (zi (qq (za5 (yr (ze C.uan hr.rmd (za (zf 4) (za (ze C.uai hr.rmd (za (zf 12) zb)) zb))))) (zi (zn zan)) zq)) z2i) (zd (qq (zs2 (zfu (za2 (zf 11) ja) (zcy (za5 (yr (ze C.ua4 hr.rmd (za (zf 9) (za (zf 10) (za (zf 11) zb))))))))) (zi (zn zan)) zq) (zi (zu 5 (zsb (zf 5) (zf 10)) nd)))))) z2i) (zi (zn zan)))))))))))
theorem law_fn{P:Program}{w:World}{K:zFr}{mg:zMg}(T0:HasDef K mg "law" s_law 0)(C:∀base,zmt base mg->TX K mg base/\CX_law P w K mg base):∃fa fd,mg "law"=some (.ref fa)/\(∀(s:Shared) (v:Value),BindsTo s fd ⟨[v],[]⟩ [("_law_script",v)])/\∀base,zmt base mg->FnOk P w K mg base CX0 133 fa fd ["_law_script"] (spG K mg g_law):=by obtain⟨f,fd,dV,F,hm,rfl⟩:=T0.ex;have B:=F.binds0 (ps:=["_law_script"]) (fun _ _ _ _ _ _=>ls1 fun _=>rfl);refine⟨f,fd,hm,?_,fun base hB=>F.ok sc_law fun cdv A outer s H E hr=>zy4 (C base hB).1 (C base hB).2 hr⟩;obtain⟨oc,od,kV,doc,pm,an,cdv,ct,osl,rfl,lk,hcd⟩:=F.ex;exact fun s v=>.of_eq rfl
theorem law_all{P:Program}{w:World}{K:zFr}{mg:zMg}(T:∀base,zmt base mg->TX K mg base)(T0:HasDef K mg "law" s_law 0):∃fa fd,mg "law"=some (.ref fa)/\(∀(s:Shared) (v:Value),BindsTo s fd ⟨[v],[]⟩ [("_law_script",v)])/\∀base,zmt base mg->FnOk P w K mg base CX0 133 fa fd ["_law_script"] (spG K mg g_law):=by
 refine law_fn T0 fun base hB=>?_;have T:=T base hB;have uav:=zb4 (P:=P) (w:=w) (base:=base) T ;have ubq:=zb5 (P:=P) (w:=w) (base:=base) T ;have uag:Cal P w K mg base 1 "_law_cell" zy:=(T.ueg.cal sc__law_cell (fun _ _ _ _ _ _=>ls2 fun _ _=>rfl) (fun f cdv A outer s H E hr=>by as_aux_lemma=>
   have nd:=sc__law_cell.nd;exact(zd (qq (zei (zf 1) (zcz T.uba (za (zf 0) zb))) (zi (zn (zr (zf 0) (zf 1)))) zq) (zd (zu 2 (qz (kz (zf 1) zm) zm) nd) (zd (qq (zde (zcz T.uba (za (zf 0) zb)) zm) (zi (zu 2 (jx (qz (kz (zr (zf 0) (jx (kz (zf 1) zm) (zcz T.uba (za (zf 0) zb)))) zm) (kz (zf 1) zm)) zm) nd)) zq) (zi (zn (jx (kz (zf 2) (zf 2)) zm))))))))
 have ubu:Cal P w K mg base 1 "_law_size" xj:=(T.ueb.cal sc__law_size (fun _ _ _ _ _ _=>ls1 fun _=>rfl) (fun f cdv A outer s H E hr=>by as_aux_lemma=>
   have nd:=sc__law_size.nd;exact(zd (qq (zbt (zf 0) ja) (zi (zn zm)) zq) (zi (zn (zr (zf 0) zm))))))
 have uah:Cal P w K mg base 1 "_law_mixed" z9:=(T.ud1.cal sc__law_mixed (fun _ _ _ _ _ _=>ls2 fun _ _=>rfl) (fun f cdv A outer s H E hr=>by as_aux_lemma=>
   have nd:=sc__law_mixed.nd;exact(zd (zu 2 (jx (kz (qz (jx (zf 0) zm) zm) (qz (kz (zf 1) (zf 1)) zm)) zm) nd) (zi (zn (jx (kz (zf 2) (qz (zf 2) (zf 1))) zm))))))
 have ua7:Cal P w K mg base 2 "_law_thing" qu:=(T.udq.cal sc__law_thing (fun _ _ _ _ _ _=>ls2 fun _ _=>rfl) (fun f cdv A outer s H E hr=>by as_aux_lemma=>
   have nd:=sc__law_thing.nd;exact(zd (zu 2 (jx (ze uag hr.rmd (za (zf 0) (za zm zb))) zm) nd) (zd (qq (zej hr (zf 2) zm) (zi (zn (jm (za (jx (ze uah hr.rmd (za (zf 1) (za zm zb))) zm) (za (jx (ze uah hr.rmd (za (zf 1) (za zm zb))) zm) zb))))) zq) (zd (qq (zs2 (zfu (zej hr (zf 2) zm) (zcy (zej hr (jx (zf 1) zm) zm)))) (zi (zn (yq (jx (kz (zbm (zf 1) zm) zm) zm) zm))) zq) (zi (zn (zr9 (za (by exact zn9 (zbn (x:="_law_k") (N':=["_law_cell_here"]) (fr:=[1]) (by decide +kernel) rfl rfl rfl rfl rfl) (zm5 T.ua5 (qz zm (jx (zbm (zf 1) zm) zm))) (fun _ _ _ _=>.nil) (fun _ _ _ _=>(zr zvn (jx (ze uah hr.rmd (za (zf 1) (za (zf 0) zb))) zm)))) zb)))))))))
 have ual:Cal P w K mg base 1 "check_place" jq:=(T.uc6.cal sc_check_place (fun _ _ _ _ _ _=>ls2 fun _ _=>rfl) (fun f cdv A outer s H E hr=>by as_aux_lemma=>
   have nd:=sc_check_place.nd;exact(zi (qq (za5 (zsc zm (zf 0) (zf 1))) (zi zbl) zq))))
 have ua8:Mth P w K mg base 1 "Wood" "numbered" j8:=T.ucf.mth sc_Wood_numbered (fun _ _ _ _ _ _=>ls2 fun _ _=>rfl) (fun f cdv A outer s H E hr=>by as_aux_lemma=>
   have nd:=sc_Wood_numbered.nd;exact(zd (zu 2 (zpp T.uap (zf 0)) nd) (zd (zlz T.uap (zf 0) (qz (zf 2) zm)) (zi (zn (qz (jm (za (zf 2) zb)) (zf 1)))))))
 have uau:Cal P w K mg base 1 "check_room" xq:=(T.udp.cal sc_check_room (fun _ _ _ _ _ _=>ls1 fun _=>rfl) (fun f cdv A outer s H E hr=>by as_aux_lemma=>
   have nd:=sc_check_room.nd;exact(zi (qq (zde (zf 0) (zx T.udl)) (zi zbl) zq))))
 have uaf:Cal P w K mg base 1 "height" jh:=(T.ufd.cal sc_height (fun _ _ _ _ _ _=>ls1 fun _=>rfl) (fun f cdv A outer s H E hr=>by as_aux_lemma=>
   have nd:=sc_height.nd;exact(zd (qq (zbt (zf 0) ja) (zi (zn zm)) zq) (zi (zn (zr (zf 0) (zx T.ufr)))))))
 have ucm:Cal P w K mg base 2 "height_above" x4:=(T.uci.cal sc_height_above (fun _ _ _ _ _ _=>ls2 fun _ _=>rfl) (fun f cdv A outer s H E hr=>by as_aux_lemma=>
   have nd:=sc_height_above.nd;exact(zi (zn (qz zm (zpo T.uft (za (ze uaf hr.rmd (za (zf 0) zb)) (za (ze uaf hr.rmd (za (zf 1) zb)) zb))))))))
 have ua6:Cal P w K mg base 2 "in_balance" xp:=(T.uds.cal sc_in_balance (fun _ _ _ _ _ _=>ls2 fun _ _=>rfl) (fun f cdv A outer s H E hr=>by as_aux_lemma=>
   have nd:=sc_in_balance.nd;exact(zi (zn (zvr (zvu T.ugv (za (yq (ze uaf hr.rmd (za (zf 0) zb)) (ze uaf hr.rmd (za (zf 1) zb))) zb)) zm)))))
 have uae:Cal P w K mg base 1 "size" jw:=(T.uge.cal sc_size (fun _ _ _ _ _ _=>ls1 fun _=>rfl) (fun f cdv A outer s H E hr=>by as_aux_lemma=>
   have nd:=sc_size.nd;exact(zd (qq (zbt (zf 0) ja) (zi (zn zm)) zq) (zi (zn (zr (zf 0) (zx T.ugf)))))))
 have ud3:Cal P w K mg base 2 "size_above" yg:=(T.ud6.cal sc_size_above (fun _ _ _ _ _ _=>ls2 fun _ _=>rfl) (fun f cdv A outer s H E hr=>by as_aux_lemma=>
   have nd:=sc_size_above.nd;exact(zi (zn (qz (qz (ze uae hr.rmd (za (zf 0) zb)) zm) (ze uae hr.rmd (za (zf 1) zb)))))))
 have uc7:Cal P w K mg base 1 "_law_before" kq:=(T.uaj.cal sc__law_before (fun _ _ _ _ _ _=>ls2 fun _ _=>rfl) (fun f cdv A outer s H E hr=>by as_aux_lemma=>
   have nd:=sc__law_before.nd;exact(zi (zn (zvq (zf 0) (zf 1))))))
 have udf:Cal P w K mg base 1 "_law_joined" ko:=(T.ubj.cal sc__law_joined (fun _ _ _ _ _ _=>ls2 fun _ _=>rfl) (fun f cdv A outer s H E hr=>by as_aux_lemma=>
   have nd:=sc__law_joined.nd;exact(zi (zn (qz (zf 0) (zf 1))))))
 have ud9:Cal P w K mg base 1 "back" zcx:=(T.ugb.cal sc_back (fun _ _ _ _ _ _=>ls1 fun _=>rfl) (fun f cdv A outer s H E hr=>by as_aux_lemma=>
   have nd:=sc_back.nd;exact(zd (qq (zbt (zf 0) ja) (zi (zn ja)) zq) (zi (zn (zr (zf 0) (zx T.ugp)))))))
 have hlt:∀t g,zgi t=some g->LCal P w K mg base 1 t g:=by intro t g e;unfold zgi at e;cases e
 have hft:∀x g,ft x=some g->Cal P w K mg base 1 x g:=by
   intro x g e;unfold ft at e;split at e
   · rename_i hx;cases e;subst hx;exact udf.mono (by decide)
   split at e
   · rename_i hx;cases e;subst hx;exact uc7.mono (by decide)
   cases e
 have uc0:Cal P w K mg base 2 "backward_sum" yk:=(T.uct.cal sc_backward_sum (fun _ _ _ _ _ _=>ls4 fun _ _ _ _=>rfl) (fun f cdv A outer s H E hr=>by as_aux_lemma=>
   have nd:=sc_backward_sum.nd;exact(zd (zu 4 (zf 2) nd) (zd (qq (za2 (zf 3) ja) (zi (zu 4 (za1 hft hlt hr.rmd (zf 0) (za (ze ud9 hr.rmd (za (zf 3) zb)) (za (zf 4) zb))) nd)) zq) (zd (qq (za2 (zf 1) ja) (zi (zu 4 (za1 hft hlt hr.rmd (zf 0) (za (zf 4) (za (ze ud9 hr.rmd (za (zf 1) zb)) zb))) nd)) zq) (zi (zn (zf 4))))))))
 have ucz:Cal P w K mg base 1 "total" y9:=(T.ufx.cal sc_total (fun _ _ _ _ _ _=>ls1 fun _=>rfl) (fun f cdv A outer s H E hr=>by as_aux_lemma=>
   have nd:=sc_total.nd;exact(zd (qq (zbt (zf 0) ja) (zi (zn ja)) zq) (zi (zn (zr (zf 0) (zx T.uf0)))))))
 have udw:Cal P w K mg base 2 "onward_sum" zam:=(T.ud8.cal sc_onward_sum (fun _ _ _ _ _ _=>ls4 fun _ _ _ _=>rfl) (fun f cdv A outer s H E hr=>by as_aux_lemma=>
   have nd:=sc_onward_sum.nd;exact(zd (zu 4 (zf 2) nd) (zd (qq (za2 (zf 1) ja) (zi (zu 4 (za1 hft hlt hr.rmd (zf 0) (za (ze ucz hr.rmd (za (zf 1) zb)) (za (zf 4) zb))) nd)) zq) (zd (qq (za2 (zf 3) ja) (zi (zu 4 (za1 hft hlt hr.rmd (zf 0) (za (zf 4) (za (ze ucz hr.rmd (za (zf 3) zb)) zb))) nd)) zq) (zi (zn (zf 4))))))))
 have udo:Cal P w K mg base 3 "sums_above" x9:=(T.ud4.cal sc_sums_above (fun _ _ _ _ _ _=>ls4 fun _ _ _ _=>rfl) (fun f cdv A outer s H E hr=>by as_aux_lemma=>
   have nd:=sc_sums_above.nd;exact(zd (qq (zbt (zf 0) ja) (zi (zn (jm (za ja (za ja zb))))) zq) (zi (zn (jm (za (ze udw hr.rmd (za (zf 0) (za (zf 1) (za (zf 2) (za (zf 3) zb))))) (za (ze uc0 hr.rmd (za (zf 0) (za (zf 1) (za (zf 2) (za (zf 3) zb))))) zb))))))))
 have uab:Mth P w K mg base 4 "Wood" "node" qd:=T.uec.mth sc_Wood_node (fun _ _ _ _ _ _=>ls4 fun _ _ _ _=>rfl) (fun f cdv A outer s H E hr=>by as_aux_lemma=>
   have nd:=sc_Wood_node.nd;exact(zd (zu 4 (ze ud3 hr.rmd (za (zf 1) (za (zf 3) zb))) nd) (zd (ky (ze uau hr.rmd (za (zf 4) zb))) (zd (qq (za5 (yr (ze ua6 hr.rmd (za (zf 1) (za (zf 3) zb))))) (zi zbl) zq) (zd (zu 5 (jm (za (zf 4) (za (ze ucm hr.rmd (za (zf 1) (za (zf 3) zb))) zb))) nd) (zd (zu 6 (ze udo hr.rmd (za (zpp T.ubi (zf 0)) (za (zf 1) (za (zf 2) (za (zf 3) zb))))) nd) (zi (zn (jd ua8 hr.rmd (zf 0) (za (qz (qz (jm (za zan (za (zf 1) (za (zf 2) (za (zf 3) zb))))) (zf 5)) (zf 6)) zb))))))))))
 have ua2:Mth P w K mg base 2 "Wood" "turned" q8:=T.udn.mth sc_Wood_turned (fun _ _ _ _ _ _=>ls2 fun _ _=>rfl) (fun f cdv A outer s H E hr=>by as_aux_lemma=>
   have nd:=sc_Wood_turned.nd;exact(zd (qq (zbt (zf 1) ja) (zi (zn ja)) zq) (zd (zu 2 (jm (za (zr (zf 1) (zx T.ubn)) (za (zr (zf 1) (zx T.ube)) (za (zr (zf 1) (zx T.ubd)) zb)))) nd) (zi (zn (jd ua8 hr.rmd (zf 0) (za (qz (qz (jm (za (zpn (zr (zf 1) (zx T.ucy))) zb)) (zf 2)) (jm (za (ze uae hr.rmd (za (zf 1) zb)) (za (ze uaf hr.rmd (za (zf 1) zb)) (za (ze ud9 hr.rmd (za (zf 1) zb)) (za (ze ucz hr.rmd (za (zf 1) zb)) zb)))))) zb)))))))
 have uam:Cal P w K mg base 3 "parts" xc:=(T.uf3.cal sc_parts (fun _ _ _ _ _ _=>ls2 fun _ _=>rfl) (fun f cdv A outer s H E hr=>by as_aux_lemma=>
   have nd:=sc_parts.nd;exact(zd (qq (za5 (yr (zr (zf 1) (zx T.ucy)))) (zi (zn (jm (za (zr (zf 1) (zx T.ubn)) (za (zr (zf 1) (zx T.ube)) (za (zr (zf 1) (zx T.ubd)) zb)))))) zq) (zd (zu 2 (jd ua2 hr.rmd (zf 0) (za (zr (zf 1) (zx T.ubd)) zb)) nd) (zd (zu 3 (jd ua2 hr.rmd (zf 0) (za (zr (zf 1) (zx T.ubn)) zb)) nd) (zi (zn (jm (za (zf 2) (za (zr (zf 1) (zx T.ube)) (za (zf 3) zb)))))))))))
 have udi:Cal P w K mg base 5 "lifted_left" zaa:=(T.udk.cal sc_lifted_left (fun _ _ _ _ _ _=>ls4 fun _ _ _ _=>rfl) (fun f cdv A outer s H E hr=>by as_aux_lemma=>
   have nd:=sc_lifted_left.nd;exact(zd (zu 4 (ze uam hr.rmd (za (zf 0) (za (zf 1) zb))) nd) (zd (qq (zvy (ze uaf hr.rmd (za (zr (zf 4) (zx T.uaa)) zb)) (ze uaf hr.rmd (za (zr (zf 4) (zx T.uac)) zb))) (zi (zn (jd uab hr.rmd (zf 0) (za (zr (zf 4) (zx T.uaa)) (za (zr (zf 4) (zx T.uad)) (za (jd uab hr.rmd (zf 0) (za (zr (zf 4) (zx T.uac)) (za (zf 2) (za (zf 3) zb)))) zb)))))) zq) (zd (zu 5 (ze uam hr.rmd (za (zf 0) (za (zr (zf 4) (zx T.uac)) zb))) nd) (zd (zu 6 (jd uab hr.rmd (zf 0) (za (zr (zf 4) (zx T.uaa)) (za (zr (zf 4) (zx T.uad)) (za (zr (zf 5) (zx T.uaa)) zb)))) nd) (zd (zu 7 (jd uab hr.rmd (zf 0) (za (zr (zf 5) (zx T.uac)) (za (zf 2) (za (zf 3) zb)))) nd) (zi (zn (jd uab hr.rmd (zf 0) (za (zf 6) (za (zr (zf 5) (zx T.uad)) (za (zf 7) zb)))))))))))))
 have ucj:Cal P w K mg base 5 "lifted_right" yj:=(T.ucn.cal sc_lifted_right (fun _ _ _ _ _ _=>ls4 fun _ _ _ _=>rfl) (fun f cdv A outer s H E hr=>by as_aux_lemma=>
   have nd:=sc_lifted_right.nd;exact(zd (zu 4 (ze uam hr.rmd (za (zf 0) (za (zf 3) zb))) nd) (zd (qq (zvy (ze uaf hr.rmd (za (zr (zf 4) (zx T.uac)) zb)) (ze uaf hr.rmd (za (zr (zf 4) (zx T.uaa)) zb))) (zi (zn (jd uab hr.rmd (zf 0) (za (jd uab hr.rmd (zf 0) (za (zf 1) (za (zf 2) (za (zr (zf 4) (zx T.uaa)) zb)))) (za (zr (zf 4) (zx T.uad)) (za (zr (zf 4) (zx T.uac)) zb)))))) zq) (zd (zu 5 (ze uam hr.rmd (za (zf 0) (za (zr (zf 4) (zx T.uaa)) zb))) nd) (zd (zu 6 (jd uab hr.rmd (zf 0) (za (zf 1) (za (zf 2) (za (zr (zf 5) (zx T.uaa)) zb)))) nd) (zd (zu 7 (jd uab hr.rmd (zf 0) (za (zr (zf 5) (zx T.uac)) (za (zr (zf 4) (zx T.uad)) (za (zr (zf 4) (zx T.uac)) zb)))) nd) (zi (zn (jd uab hr.rmd (zf 0) (za (zf 6) (za (zr (zf 5) (zx T.uad)) (za (zf 7) zb)))))))))))))
 have uat:Cal P w K mg base 6 "balanced" jy:=(T.uev.cal sc_balanced (fun _ _ _ _ _ _=>ls4 fun _ _ _ _=>rfl) (fun f cdv A outer s H E hr=>by as_aux_lemma=>
   have nd:=sc_balanced.nd;exact(zd (qq (yr (ze ua6 hr.rmd (za (zf 1) (za (zf 3) zb)))) (zi (zn (jd uab hr.rmd (zf 0) (za (zf 1) (za (zf 2) (za (zf 3) zb)))))) zq) (zd (qq (zde (ze uaf hr.rmd (za (zf 1) zb)) (ze uaf hr.rmd (za (zf 3) zb))) (zi (zn (ze udi hr.rmd (za (zf 0) (za (zf 1) (za (zf 2) (za (zf 3) zb))))))) zq) (zi (zn (ze ucj hr.rmd (za (zf 0) (za (zf 1) (za (zf 2) (za (zf 3) zb)))))))))))
 have uax:∀n:Nat,Cal P w K mg base (7+n) "joined" (kj n):=fun n=>by
   induction n with
   |zero=>exact T.udt.none0 (ps:=["wood", "left", "thing", "right"]) (fun _ _ _ _ _ _=>ls4 fun _ _ _ _=>rfl)
   | succ n hself=>exact T.udt.cal sc_joined (fun _ _ _ _ _ _=>ls4 fun _ _ _ _=>rfl) (fun f cdv A outer s H E hr0=>by as_aux_lemma=>
     have nd:=sc_joined.nd;have hr:=hr0.mono (z2b 7 n);exact(zd (qq (yr (ze ua6 hr.rmd (za (zf 1) (za (zf 3) zb)))) (zi (zn (jd uab hr.rmd (zf 0) (za (zf 1) (za (zf 2) (za (zf 3) zb)))))) zq) (zd (qq (zde (ze uaf hr.rmd (za (zf 1) zb)) (ze uaf hr.rmd (za (zf 3) zb))) (zd (zu 4 (ze uam hr.rmd (za (zf 0) (za (zf 1) zb))) nd) (zi (zn (ze uat hr.rmd (za (zf 0) (za (zr (zf 4) (zx T.uaa)) (za (zr (zf 4) (zx T.uad)) (za (ze hself hr0 (za (zf 0) (za (zr (zf 4) (zx T.uac)) (za (zf 2) (za (zf 3) zb))))) zb)))))))) zq) (zd (zu 4 (ze uam hr.rmd (za (zf 0) (za (zf 3) zb))) nd) (zi (zn (ze uat hr.rmd (za (zf 0) (za (ze hself hr0 (za (zf 0) (za (zf 1) (za (zf 2) (za (zr (zf 4) (zx T.uaa)) zb))))) (za (zr (zf 4) (zx T.uad)) (za (zr (zf 4) (zx T.uac)) zb)))))))))))
 have uax:=uax 40;have uak:∀n:Nat,Cal P w K mg base (48+n) "cut_ahead" (j6 n):=fun n=>by
   induction n with
   |zero=>exact T.ubr.none0 (ps:=["wood", "make", "place"]) (fun _ _ _ _ _ _=>ls3 fun _ _ _=>rfl)
   | succ n hself=>exact T.ubr.cal sc_cut_ahead (fun _ _ _ _ _ _=>ls3 fun _ _ _=>rfl) (fun f cdv A outer s H E hr0=>by as_aux_lemma=>
     have nd:=sc_cut_ahead.nd;have hr:=hr0.mono (z2b 48 n);exact(zd (qq (zej hr (zf 2) zm) (zi (zn (jm (za ja (za (zf 1) zb))))) zq) (zd (qq (zej hr (zf 2) (ze uae hr.rmd (za (zf 1) zb))) (zi (zn (jm (za (zf 1) (za ja zb))))) zq) (zd (zu 3 (ze uam hr.rmd (za (zf 0) (za (zf 1) zb))) nd) (zd (zu 4 (ze uae hr.rmd (za (zr (zf 3) (zx T.uaa)) zb)) nd) (zd (qq (zvx (zf 2) (zf 4)) (zd (zu 5 (ze hself hr0 (za (zf 0) (za (zr (zf 3) (zx T.uaa)) (za (zf 2) zb)))) nd) (zi (zn (jm (za (zr (zf 5) zm) (za (ze uax hr.rmd (za (zf 0) (za (zr (zf 5) zm) (za (zr (zf 3) (zx T.uad)) (za (zr (zf 3) (zx T.uac)) zb))))) zb)))))) zq) (zd (zu 5 (ze hself hr0 (za (zf 0) (za (zr (zf 3) (zx T.uac)) (za (yq (yq (zf 2) (zf 4)) zm) zb)))) nd) (zi (zn (jm (za (ze uax hr.rmd (za (zf 0) (za (zr (zf 3) (zx T.uaa)) (za (zr (zf 3) (zx T.uad)) (za (zr (zf 5) zm) zb))))) (za (zr (zf 5) zm) zb))))))))))))
 have uak:=uak 40;have ugu:Cal P w K mg base 89 "cut" zr1:=(T.ugt.cal sc_cut (fun _ _ _ _ _ _=>ls3 fun _ _ _=>rfl) (fun f cdv A outer s H E hr=>by as_aux_lemma=>
   have nd:=sc_cut.nd;exact(zd (ky (ze ual hr.rmd (za (zf 2) (za (qz (ze uae hr.rmd (za (zf 1) zb)) zm) zb)))) (zi (zn (ze uak hr.rmd (za (zf 0) (za (zf 1) (za (zf 2) zb)))))))))
 have uez:Cal P w K mg base 1 "seen" zin:=(T.ugq.cal sc_seen (fun _ _ _ _ _ _=>ls2 fun _ _=>rfl) (fun f cdv A outer s H E hr=>by as_aux_lemma=>
   have nd:=sc_seen.nd;exact(zd (qq (zej hr (zr (zf 0) (zx T.ucy)) (zf 1)) (zi (zn (jm (za (zr (zf 0) (zx T.ubn)) (za (zr (zf 0) (zx T.ube)) (za (zr (zf 0) (zx T.ubd)) (za zan zb))))))) zq) (zi (zn (jm (za (zr (zf 0) (zx T.ubd)) (za (zr (zf 0) (zx T.ube)) (za (zr (zf 0) (zx T.ubn)) (za zan zb))))))))))
 have uaq:∀n:Nat,Cal P w K mg base (2+n) "thing_at" (xo n):=fun n=>by
   induction n with
   |zero=>exact T.uca.none0 (ps:=["make", "turned", "place"]) (fun _ _ _ _ _ _=>ls3 fun _ _ _=>rfl)
   | succ n hself=>exact T.uca.cal sc_thing_at (fun _ _ _ _ _ _=>ls3 fun _ _ _=>rfl) (fun f cdv A outer s H E hr0=>by as_aux_lemma=>
     have nd:=sc_thing_at.nd;have hr:=hr0.mono (z2b 2 n);exact(zd (zu 3 (ze uez hr.rmd (za (zf 0) (za (zf 1) zb))) nd) (zd (zu 4 (ze uae hr.rmd (za (zr (zf 3) (zx T.uaa)) zb)) nd) (zd (qq (zei (zf 2) (zf 4)) (zi (zn (ze hself hr0 (za (zr (zf 3) (zx T.uaa)) (za (zr (zf 3) (zx T.ubh)) (za (zf 2) zb)))))) zq) (zd (qq (zde (zf 2) (zf 4)) (zi (zn (ze hself hr0 (za (zr (zf 3) (zx T.uac)) (za (zr (zf 3) (zx T.ubh)) (za (yq (yq (zf 2) (zf 4)) zm) zb)))))) zq) (zi (zn (zr (zf 3) (zx T.uad)))))))))
 have uaq:=uaq 40;have ubs:=zb0 (P:=P) (w:=w) (base:=base) T uat uam uae uax uaq 40;have uar:=zac (P:=P) (w:=w) (base:=base) T uax uaq ubs;have ugg:Cal P w K mg base 130 "laid" zlw:=(T.ugo.cal sc_laid (fun _ _ _ _ _ _=>ls3 fun _ _ _=>rfl) (fun f cdv A outer s H E hr=>by as_aux_lemma=>
   have nd:=sc_laid.nd;exact(zd (ky (ze uau hr.rmd (za (qz (ze uae hr.rmd (za (zf 1) zb)) (ze uae hr.rmd (za (zf 2) zb))) zb))) (zi (zn (ze uar hr.rmd (za (zf 0) (za (zf 1) (za (zf 2) zb)))))))))
 have ufu:Cal P w K mg base 129 "out" zlv:=(T.ugs.cal sc_out (fun _ _ _ _ _ _=>ls3 fun _ _ _=>rfl) (fun f cdv A outer s H E hr=>by as_aux_lemma=>
   have nd:=sc_out.nd;exact(zd (ky (ze ual hr.rmd (za (zf 2) (za (ze uae hr.rmd (za (zf 1) zb)) zb)))) (zi (zn (ze ubs hr.rmd (za (zf 0) (za (zf 1) (za (zf 2) zb)))))))))
 have ua9:Cal P w K mg base 2 "check_stretch" xx:=(T.ub5.cal sc_check_stretch (fun _ _ _ _ _ _=>ls3 fun _ _ _=>rfl) (fun f cdv A outer s H E hr=>by as_aux_lemma=>
   have nd:=sc_check_stretch.nd;exact(zi (qq (za5 (zl3 zm (zf 1) (zf 2) (ze uae hr.rmd (za (zf 0) zb)))) (zi zbl) zq))))
 have ugh:Cal P w K mg base 89 "part" zio:=(T.ugi.cal sc_part (fun _ _ _ _ _ _=>ls4 fun _ _ _ _=>rfl) (fun f cdv A outer s H E hr=>by as_aux_lemma=>
   have nd:=sc_part.nd;exact(zd (ky (ze ua9 hr.rmd (za (zf 1) (za (zf 2) (za (zf 3) zb))))) (zi (zn (zr (ze uak hr.rmd (za (zf 0) (za (zr (ze uak hr.rmd (za (zf 0) (za (zf 1) (za (zf 3) zb)))) zm) (za (zf 2) zb)))) zm))))))
 have ubz:∀n:Nat,Cal P w K mg base (7+n) "put_in" (zb8 n):=fun n=>by
   induction n with
   |zero=>exact T.udv.none0 (ps:=["wood", "make", "place", "thing"]) (fun _ _ _ _ _ _=>ls4 fun _ _ _ _=>rfl)
   | succ n hself=>exact T.udv.cal sc_put_in (fun _ _ _ _ _ _=>ls4 fun _ _ _ _=>rfl) (fun f cdv A outer s H E hr0=>by as_aux_lemma=>
     have nd:=sc_put_in.nd;have hr:=hr0.mono (z2b 7 n);exact(zd (qq (zbt (zf 1) ja) (zi (zn (jd uab hr.rmd (zf 0) (za ja (za (zf 3) (za ja zb)))))) zq) (zd (zu 4 (ze uam hr.rmd (za (zf 0) (za (zf 1) zb))) nd) (zd (zu 5 (ze uae hr.rmd (za (zr (zf 4) (zx T.uaa)) zb)) nd) (zd (qq (zvx (zf 2) (zf 5)) (zi (zn (ze uat hr.rmd (za (zf 0) (za (ze hself hr0 (za (zf 0) (za (zr (zf 4) (zx T.uaa)) (za (zf 2) (za (zf 3) zb))))) (za (zr (zf 4) (zx T.uad)) (za (zr (zf 4) (zx T.uac)) zb))))))) zq) (zi (zn (ze uat hr.rmd (za (zf 0) (za (zr (zf 4) (zx T.uaa)) (za (zr (zf 4) (zx T.uad)) (za (ze hself hr0 (za (zf 0) (za (zr (zf 4) (zx T.uac)) (za (yq (yq (zf 2) (zf 5)) zm) (za (zf 3) zb))))) zb))))))))))))
 have ubz:=ubz 40;have ues:Cal P w K mg base 48 "put" zg1:=(T.ugr.cal sc_put (fun _ _ _ _ _ _=>ls4 fun _ _ _ _=>rfl) (fun f cdv A outer s H E hr=>by as_aux_lemma=>
   have nd:=sc_put.nd;exact(zd (ky (ze ual hr.rmd (za (zf 2) (za (qz (ze uae hr.rmd (za (zf 1) zb)) zm) zb)))) (zd (ky (ze uau hr.rmd (za (qz (ze uae hr.rmd (za (zf 1) zb)) zm) zb))) (zi (zn (ze ubz hr.rmd (za (zf 0) (za (zf 1) (za (zf 2) (za (zf 3) zb)))))))))))
 have ucq:∀n:Nat,Cal P w K mg base (5+n) "given" (zec n):=fun n=>by
   induction n with
   |zero=>exact T.uen.none0 (ps:=["wood", "make", "place", "thing"]) (fun _ _ _ _ _ _=>ls4 fun _ _ _ _=>rfl)
   | succ n hself=>exact T.uen.cal sc_given (fun _ _ _ _ _ _=>ls4 fun _ _ _ _=>rfl) (fun f cdv A outer s H E hr0=>by as_aux_lemma=>
     have nd:=sc_given.nd;have hr:=hr0.mono (z2b 5 n);exact(zd (zu 4 (ze uam hr.rmd (za (zf 0) (za (zf 1) zb))) nd) (zd (zu 5 (ze uae hr.rmd (za (zr (zf 4) (zx T.uaa)) zb)) nd) (zd (qq (zei (zf 2) (zf 5)) (zi (zn (jd uab hr.rmd (zf 0) (za (ze hself hr0 (za (zf 0) (za (zr (zf 4) (zx T.uaa)) (za (zf 2) (za (zf 3) zb))))) (za (zr (zf 4) (zx T.uad)) (za (zr (zf 4) (zx T.uac)) zb)))))) zq) (zd (qq (zde (zf 2) (zf 5)) (zi (zn (jd uab hr.rmd (zf 0) (za (zr (zf 4) (zx T.uaa)) (za (zr (zf 4) (zx T.uad)) (za (ze hself hr0 (za (zf 0) (za (zr (zf 4) (zx T.uac)) (za (yq (yq (zf 2) (zf 5)) zm) (za (zf 3) zb))))) zb)))))) zq) (zi (zn (jd uab hr.rmd (zf 0) (za (zr (zf 4) (zx T.uaa)) (za (zf 3) (za (zr (zf 4) (zx T.uac)) zb)))))))))))
 have ucq:=ucq 40;have uc3:Cal P w K mg base 46 "swapped" zal:=(T.ue5.cal sc_swapped (fun _ _ _ _ _ _=>ls4 fun _ _ _ _=>rfl) (fun f cdv A outer s H E hr=>by as_aux_lemma=>
   have nd:=sc_swapped.nd;exact(zd (ky (ze ual hr.rmd (za (zf 2) (za (ze uae hr.rmd (za (zf 1) zb)) zb)))) (zi (zn (ze ucq hr.rmd (za (zf 0) (za (zf 1) (za (zf 2) (za (zf 3) zb))))))))))
 have ude:Cal P w K mg base 130 "turned_part" y8:=(T.udc.cal sc_turned_part (fun _ _ _ _ _ _=>ls4 fun _ _ _ _=>rfl) (fun f cdv A outer s H E hr=>by as_aux_lemma=>
   have nd:=sc_turned_part.nd;exact(zd (ky (ze ua9 hr.rmd (za (zf 1) (za (zf 2) (za (zf 3) zb))))) (zd (zu 4 (ze uak hr.rmd (za (zf 0) (za (zf 1) (za (zf 3) zb)))) nd) (zd (zu 5 (ze uak hr.rmd (za (zf 0) (za (zr (zf 4) zm) (za (zf 2) zb)))) nd) (zd (zu 6 (ze uar hr.rmd (za (zf 0) (za (zr (zf 5) zm) (za (jd ua2 hr.rmd (zf 0) (za (zr (zf 5) zm) zb)) zb)))) nd) (zi (zn (ze uar hr.rmd (za (zf 0) (za (zf 6) (za (zr (zf 4) zm) zb))))))))))))
 have ubc:Cal P w K mg base 131 "_law_deed" xy:=(T.uel.cal sc__law_deed (fun _ _ _ _ _ _=>ls5 fun _ _ _ _ _=>rfl) (fun f cdv A outer s H E hr=>by as_aux_lemma=>
   have nd:=sc__law_deed.nd;exact(zd (zu 5 (zr (zf 2) (jx (zf 4) (zcz T.uba (za (zf 2) zb)))) nd) (zd (zu 6 (zr (zf 2) (jx (zbm (zf 4) zm) (zcz T.uba (za (zf 2) zb)))) nd) (zd (zu 7 (ze ubu hr.rmd (za (zf 5) zb)) nd) (zd (zu 4 (zbm (zf 4) zm) nd) (zd (zu 8 (jx (zf 4) (qz (zf 7) zm)) nd) (zd (qq (zei (zf 3) zm) (zi (zn (jn (za (jn (za (zf 5) zb)) (za (jn (za (ze ues hr.rmd (za (zf 1) (za (zf 5) (za (zf 8) (za (ze ua7 hr.rmd (za (zf 0) (za (zf 4) zb))) zb))))) zb)) (za zm zb)))))) zq) (zd (qq (zs2 (zfu (zei (zf 3) zm) (zcy (zde (zf 7) zm)))) (zi (zn (jn (za (jn (za (zf 5) zb)) (za (jn (za (ze ufu hr.rmd (za (zf 1) (za (zf 5) (za (jx (zf 4) (zf 7)) zb)))) zb)) (za zm zb)))))) zq) (zd (qq (zs2 (zfu (zei (zf 3) zm) (zcy (zde (zf 7) zm)))) (zi (zn (jn (za (jn (za (zf 5) zb)) (za (jn (za (ze uc3 hr.rmd (za (zf 1) (za (zf 5) (za (jx (zf 4) (zf 7)) (za (ze ua7 hr.rmd (za (zf 0) (za (zf 4) zb))) zb))))) zb)) (za zm zb)))))) zq) (zd (qq (zei (zf 3) zm) (zi (zn (jn (za (jn (za (zf 5) zb)) (za (zn6 T.ugm (za (ze ugu hr.rmd (za (zf 1) (za (zf 5) (za (zf 8) zb)))) zb)) (za zm zb)))))) zq) (zd (zu 9 (qz (zf 8) (jx (zbm (zf 4) zm) (qz (yq (zf 7) (zf 8)) zm))) nd) (zd (qq (zej hr (zf 3) zm) (zi (zn (jn (za (jn (za (zf 5) zb)) (za (jn (za (ze ugh hr.rmd (za (zf 1) (za (zf 5) (za (zf 8) (za (zf 9) zb))))) zb)) (za ja zb)))))) zq) (zd (qq (zs2 (zys (zei (zf 3) zm) (zvh (zde (qz (zf 7) (ze ubu hr.rmd (za (zf 6) zb))) zm)))) (zi (zn (jn (za (jn (za (zf 5) zb)) (za (jn (za (ze ude hr.rmd (za (zf 1) (za (zf 5) (za (zf 8) (za (zf 9) zb))))) zb)) (za ja zb)))))) zq) (zi (zn (jn (za (jn (za (zf 5) (za (zf 6) zb))) (za (jn (za (ze ugg hr.rmd (za (zf 1) (za (zf 5) (za (zf 6) zb)))) zb)) (za zm zb))))))))))))))))))))
 have uei:Cal P w K mg base 1 "_law_high" jt:=(T.ueh.cal sc__law_high (fun _ _ _ _ _ _=>ls1 fun _=>rfl) (fun f cdv A outer s H E hr=>by as_aux_lemma=>
   have nd:=sc__law_high.nd;exact(zd (qq (zbt (zf 0) ja) (zi (zn zm)) zq) (zi (zn (zr (zf 0) zm))))))
 have uai:Cal P w K mg base 1 "_law_of_nodes" zv:=(T.ucg.cal sc__law_of_nodes (fun _ _ _ _ _ _=>ls1 fun _=>rfl) (fun f cdv A outer s H E hr=>by as_aux_lemma=>
   have nd:=sc__law_of_nodes.nd;exact(zd (zu 1 zeg nd) (zd (zu 2 (zg6 (za (zf 0) zb)) nd) (zd (zn0 5000 (zvw hr (zf 2) (jn zb)) (zd (zu 3 (zvo (zf 2)) nd) (zi (qq (zs2 (zfu (za2 (zf 3) ja) (zcy (zir hr (zr (zf 3) zm) (zf 1))))) (zd (zr4 hr (zf 1) (zr (zf 3) zm) (zf 3)) (zd (yp (zf 2) (zr (zf 3) zm)) (zi (yp (zf 2) (zr (zf 3) zm))))) zq))) z2i) (zi (zn (zf 1)))))))).frzD
 have ua4:Cal P w K mg base 2 "_law_few" jk:=(T.uet.cal sc__law_few (fun _ _ _ _ _ _=>ls3 fun _ _ _=>rfl) (fun f cdv A outer s H E hr=>by as_aux_lemma=>
   have nd:=sc__law_few.nd;exact(zd (zu 3 zeg nd) (zd (zu 4 zm nd) (zd (zg3 5 nd (zf 0) (zd (zu 4 (zpo T.uft (za (zf 4) (za (ze uei hr.rmd (za (zf 5) zb)) zb))) nd) (zi (zg4 6 nd (ze uai hr.rmd (za (zf 5) zb)) (zi (zee hr (zf 3) (zf 6) zan)) z2i))) z2i) (zd (zu 7 zeg nd) (zd (zg3 5 nd (zf 1) (zi (zg4 6 nd (ze uai hr.rmd (za (zf 5) zb)) (zi (qq (zir hr (zf 6) (zf 3)) (zi (zee hr (zf 7) (zf 6) zan)) zq)) z2i)) z2i) (zi (zn (zvr (zr8 T.uba (za (zf 7) zb)) (kz (zf 2) (qz (zf 4) zm)))))))))))).frz
 have ubk:Cal P w K mg base 1 "_law_number" km:=(T.uda.cal sc__law_number (fun _ _ _ _ _ _=>ls1 fun _=>rfl) (fun f cdv A outer s H E hr=>by as_aux_lemma=>
   have nd:=sc__law_number.nd;exact(zd (qq (zbt (zf 0) ja) (zi (zn ja)) zq) (zi (zn (zr (zf 0) zm))))))
 have uem:Cal P w K mg base 2 "_law_told" zab:=(T.ued.cal sc__law_told (fun _ _ _ _ _ _=>ls1 fun _=>rfl) (fun f cdv A outer s H E hr=>by as_aux_lemma=>
   have nd:=sc__law_told.nd;exact(zi (zn (jm (za (zr (zf 0) zm) (za (ze ubk hr.rmd (za (zr (zf 0) zm) zb)) (za (zr (zf 0) zm) (za (ze ubk hr.rmd (za (zr (zf 0) zm) zb)) (za (zr (zf 0) zm) (za (zr (zf 0) zm) zb)))))))))))
 have uan:Cal P w K mg base 3 "_law_one_node" qi:=(T.ub9.cal sc__law_one_node (fun _ _ _ _ _ _=>ls2 fun _ _=>rfl) (fun f cdv A outer s H E hr=>by as_aux_lemma=>
   have nd:=sc__law_one_node.nd;exact(zd (zg4 2 nd (zf 1) (zd (zu 3 (ze uem hr.rmd (za (zn7 hr (zf 1) (zf 2)) zb)) nd) (zd (qq (zyx hr (zsa hr (zf 0) (zf 2) (zf 3)) (zf 3)) (zi (zn zan)) zq) (zi (zee hr (zf 0) (zf 2) (zf 3))))) z2i) (zi (zn zan)))))
 have ugy:Cal P w K mg base 43 "at" zyr:=(T.ugx.cal sc_at (fun _ _ _ _ _ _=>ls2 fun _ _=>rfl) (fun f cdv A outer s H E hr=>by as_aux_lemma=>
   have nd:=sc_at.nd;exact(zd (ky (ze ual hr.rmd (za (zf 1) (za (ze uae hr.rmd (za (zf 0) zb)) zb)))) (zi (zn (ze uaq hr.rmd (za (zf 0) (za zan (za (zf 1) zb)))))))))
 have hct1:∀t g,zjo t=some g->CCal P w K mg base 1 t g:=by intro t g e;unfold zjo at e;cases e
 have hct:∀t g,zoh t=some g->CCal P w K mg base 2 t g:=by
   intro t g e;unfold zoh at e;split at e
   · rename_i hx;cases e;subst hx;exact(z0q T hft hct1).mono (by decide)
   cases e
 have ua1:Cal P w K mg base 44 "is_alike_at" xw:=(T.uc9.cal sc_is_alike_at (fun _ _ _ _ _ _=>ls4 fun _ _ _ _=>rfl) (fun f cdv A outer s H E hr=>by as_aux_lemma=>
   have nd:=sc_is_alike_at.nd;exact(zi (zn (zvt (zvq (zf 1) (ze uae hr.rmd (za (zf 0) zb))) (zvp (zpn (zeh (fun x g e=>(hft x g e).mono (by decide)) (fun t g e=>(hlt t g e).mono (by decide)) hct hr.rmd (zf 3) (za (zf 2) (za (ze ugy hr.rmd (za (zf 0) (za (zf 1) zb))) zb))))))))))
 have uaz:∀n:Nat,Cal P w K mg base (3+n) "count_before" (x5 n):=fun n=>by
   induction n with
   |zero=>exact T.ubf.none0 (ps:=["make", "turned", "thing", "before"]) (fun _ _ _ _ _ _=>ls4 fun _ _ _ _=>rfl)
   | succ n hself=>exact T.ubf.cal sc_count_before (fun _ _ _ _ _ _=>ls4 fun _ _ _ _=>rfl) (fun f cdv A outer s H E hr0=>by as_aux_lemma=>
     have nd:=sc_count_before.nd;have hr:=hr0.mono (z2b 3 n);exact(zd (qq (zbt (zf 0) ja) (zi (zn zm)) zq) (zd (zu 4 (ze uez hr.rmd (za (zf 0) (za (zf 1) zb))) nd) (zd (qq (yr (zeh (fun x g e=>(hft x g e).mono (by decide)) (fun t g e=>(hlt t g e).mono (by decide)) hct hr.rmd (zf 3) (za (zr (zf 4) (zx T.uad)) (za (zf 2) zb)))) (zi (zn (qz (qz (ze uae hr.rmd (za (zr (zf 4) (zx T.uaa)) zb)) zm) (ze hself hr0 (za (zr (zf 4) (zx T.uac)) (za (zr (zf 4) (zx T.ubh)) (za (zf 2) (za (zf 3) zb)))))))) zq) (zi (zn (ze hself hr0 (za (zr (zf 4) (zx T.uaa)) (za (zr (zf 4) (zx T.ubh)) (za (zf 2) (za (zf 3) zb)))))))))))
 have uaz:=uaz 40;have ubg:Cal P w K mg base 44 "place_of" kt:=(T.uew.cal sc_place_of (fun _ _ _ _ _ _=>ls3 fun _ _ _=>rfl) (fun f cdv A outer s H E hr=>by as_aux_lemma=>
   have nd:=sc_place_of.nd;exact(zi (zn (ze uaz hr.rmd (za (zf 0) (za zan (za (zf 1) (za (zf 2) zb)))))))))
 have uf7:Cal P w K mg base 49 "added" zg2:=(T.ufy.cal sc_added (fun _ _ _ _ _ _=>ls4 fun _ _ _ _=>rfl) (fun f cdv A outer s H E hr=>by as_aux_lemma=>
   have nd:=sc_added.nd;exact(zd (zu 4 (ze ubg hr.rmd (za (zf 1) (za (zf 2) (za (zf 3) zb)))) nd) (zd (qq (yr (ze ua1 hr.rmd (za (zf 1) (za (zf 4) (za (zf 2) (za (zf 3) zb)))))) (zi (zn (zf 1))) zq) (zi (zn (ze ues hr.rmd (za (zf 0) (za (zf 1) (za (zf 4) (za (zf 2) zb)))))))))))
 have ub0:Cal P w K mg base 45 "place_of_alike" ke:=(T.ub2.cal sc_place_of_alike (fun _ _ _ _ _ _=>ls3 fun _ _ _=>rfl) (fun f cdv A outer s H E hr=>by as_aux_lemma=>
   have nd:=sc_place_of_alike.nd;exact(zd (zu 3 (ze ubg hr.rmd (za (zf 0) (za (zf 1) (za (zf 2) zb)))) nd) (zd (qq (za5 (yr (ze ua1 hr.rmd (za (zf 0) (za (zf 3) (za (zf 1) (za (zf 2) zb))))))) (zi zbl) zq) (zi (zn (zf 3)))))))
 have uc2:Cal P w K mg base 130 "dropped" zbk:=(T.uey.cal sc_dropped (fun _ _ _ _ _ _=>ls4 fun _ _ _ _=>rfl) (fun f cdv A outer s H E hr=>by as_aux_lemma=>
   have nd:=sc_dropped.nd;exact(zi (zn (ze ufu hr.rmd (za (zf 0) (za (zf 1) (za (ze ub0 hr.rmd (za (zf 1) (za (zf 2) (za (zf 3) zb)))) zb))))))))
 have ucw:∀n:Nat,Cal P w K mg base (5+n) "built" (zed n):=fun n=>by
   induction n with
   |zero=>exact T.ueo.none0 (ps:=["wood", "things", "start", "end"]) (fun _ _ _ _ _ _=>ls4 fun _ _ _ _=>rfl)
   | succ n hself=>exact T.ueo.cal sc_built (fun _ _ _ _ _ _=>ls4 fun _ _ _ _=>rfl) (fun f cdv A outer s H E hr0=>by as_aux_lemma=>
     have nd:=sc_built.nd;have hr:=hr0.mono (z2b 5 n);exact(zd (qq (zej hr (zf 2) (zf 3)) (zi (zn ja)) zq) (zd (zu 4 (zbm (qz (zf 2) (zf 3)) zm) nd) (zd (zu 5 (ze hself hr0 (za (zf 0) (za (zf 1) (za (zf 2) (za (zf 4) zb))))) nd) (zd (zu 6 (ze hself hr0 (za (zf 0) (za (zf 1) (za (qz (zf 4) zm) (za (zf 3) zb))))) nd) (zi (zn (jd uab hr.rmd (zf 0) (za (zf 5) (za (zr (zf 1) (zf 4)) (za (zf 6) zb)))))))))))
 have ucw:=ucw 40;have ua0:Cal P w K mg base 46 "make_of" xf:=(T.ue7.cal sc_make_of (fun _ _ _ _ _ _=>ls2 fun _ _=>rfl) (fun f cdv A outer s H E hr=>by as_aux_lemma=>
   have nd:=sc_make_of.nd;exact(zd (ky (ze uau hr.rmd (za (zcz T.uba (za (zf 1) zb)) zb))) (zi (zn (ze ucw hr.rmd (za (zf 0) (za (zf 1) (za zm (za (zcz T.uba (za (zf 1) zb)) zb))))))))))
 have ud7:=zli (P:=P) (w:=w) (base:=base) T ;have ubm:Cal P w K mg base 49 "with_value" yf:=(T.ud5.cal sc_with_value (fun _ _ _ _ _ _=>ls5 fun _ _ _ _ _=>rfl) (fun f cdv A outer s H E hr=>by as_aux_lemma=>
   have nd:=sc_with_value.nd;exact(zd (zu 5 (jm (za (zf 2) (za (zf 3) zb))) nd) (zd (zu 6 (ze ud7 hr.rmd (za (zf 4) zb)) nd) (zd (zu 7 (ze ubg hr.rmd (za (zf 1) (za (zf 5) (za (zf 6) zb)))) nd) (zd (qq (yr (ze ua1 hr.rmd (za (zf 1) (za (zf 7) (za (zf 5) (za (zf 6) zb)))))) (zi (zn (ze uc3 hr.rmd (za (zf 0) (za (zf 1) (za (zf 7) (za (zf 5) zb))))))) zq) (zi (zn (ze ues hr.rmd (za (zf 0) (za (zf 1) (za (zf 7) (za (zf 5) zb)))))))))))))
 have ufp:Cal P w K mg base 1 "sought" zeb:=(T.ufl.cal sc_sought (fun _ _ _ _ _ _=>ls1 fun _=>rfl) (fun f cdv A outer s H E hr=>by as_aux_lemma=>
   have nd:=sc_sought.nd;exact(zi (zn (jm (za (zf 0) (za ja zb)))))))
 have ue9:Cal P w K mg base 131 "without" zcw:=(T.ufa.cal sc_without (fun _ _ _ _ _ _=>ls4 fun _ _ _ _=>rfl) (fun f cdv A outer s H E hr=>by as_aux_lemma=>
   have nd:=sc_without.nd;exact(zi (zn (ze uc2 hr.rmd (za (zf 0) (za (zf 1) (za (ze ufp hr.rmd (za (zf 2) zb)) (za (ze ud7 hr.rmd (za (zf 3) zb)) zb)))))))))
 have uas:Cal P w K mg base 132 "_law_sets_too" j7:=(T.ucc.cal sc__law_sets_too (fun _ _ _ _ _ _=>ls2 fun _ _=>rfl) (fun f cdv A outer s H E hr=>by as_aux_lemma=>
   have nd:=sc__law_sets_too.nd;exact(zd (zu 2 (zn5 ubq hr.rmd) nd) (zd (zu 3 (ze uah hr.rmd (za (ze uag hr.rmd (za (zf 0) (za zm zb))) (za zm zb))) nd) (zd (zu 4 (qz zm (jx (zf 3) (qz (zf 1) zm))) nd) (zd (zu 5 (ze ua0 hr.rmd (za (zf 2) (za (by exact zn9 (zbn (x:="_law_k") (N':=[]) (fr:=[]) (by decide +kernel) rfl rfl rfl rfl rfl) (zm5 T.ua5 (zf 4)) (fun _ _ _ _=>.nil) (fun _ _ _ _=>(kz zm (zf 0)))) zb))) nd) (zd (zu 6 (ze ua0 hr.rmd (za (zf 2) (za (by exact zn9 (zbn (x:="_law_k") (N':=[]) (fr:=[]) (by decide +kernel) rfl rfl rfl rfl rfl) (zm5 T.ua5 (zf 4)) (fun _ _ _ _=>.nil) (fun _ _ _ _=>(jm (za (kz zm (zf 0)) (za (zf 0) zb))))) zb))) nd) (zd (zu 7 (kz zm (jx (zbm (zf 3) zm) (zf 4))) nd) (zd (zu 8 (zg6 (za (jm (za (zf 5) (za (ze uf7 hr.rmd (za (zf 2) (za (zf 5) (za (qz (zf 7) zm) (za (zjh T.uaj.val) zb))))) zb))) (za (jm (za (zf 5) (za (ze uc2 hr.rmd (za (zf 2) (za (zf 5) (za (zf 7) (za (zjh T.uaj.val) zb))))) zb))) zb))) nd) (zd (yp (zf 8) (jm (za (zf 6) (za (ze ubm hr.rmd (za (zf 2) (za (zf 6) (za (qz (zf 7) zm) (za zm (za (zjh T.uaj.val) zb)))))) zb)))) (zd (yp (zf 8) (jm (za (zf 6) (za (ze ubm hr.rmd (za (zf 2) (za (zf 6) (za (zf 7) (za zm (za (zjh T.uaj.val) zb)))))) zb)))) (zd (yp (zf 8) (jm (za (zf 6) (za (ze ue9 hr.rmd (za (zf 2) (za (zf 6) (za (zf 7) (za (zjh T.uaj.val) zb))))) zb)))) (zd (zn1 [9,10] (yo 9 nd (yo 10 nd Names.nil)) (zf 8) (zi (qq (za5 (yr (ze ua4 hr.rmd (za (jn (za (zf 9) zb)) (za (jn (za (zf 10) zb)) (za zm zb)))))) (zi (zn zan)) zq)) z2i) (zi (zn zan))))))))))))))).frz
 have ua3:Cal P w K mg base 3 "_law_things" jr:=(T.udh.cal sc__law_things (fun _ _ _ _ _ _=>ls3 fun _ _ _=>rfl) (fun f cdv A outer s H E hr=>by as_aux_lemma=>
   have nd:=sc__law_things.nd;exact(zi (zn (by exact zn9 (zbn (x:="_law_k") (N':=["_law_cell_here", "_law_script"]) (fr:=[1,0]) (by decide +kernel) rfl rfl rfl rfl rfl) (zm5 T.ua5 (jx (zf 1) (qz (zf 2) zm))) (fun _ _ _ _=>.nil) (fun _ _ _ _=>(ze ua7 hr.rmd (za (zf 2) (za (ze uah hr.rmd (za (zf 1) (za (qz zm (zf 0)) zb))) zb)))))))))
 exact⟨T,⟨uav,uag,ubc,ua4,uah,uai,uan,uas,ua3,ua0⟩⟩
end Pg
open PySem PySem.W L2 F PySem.Spec PyProof.Rows
namespace PySem.W.Fast
def tw4468720878876000760:=()
def tw12690104116007669222:=()
def tw5141432869755694391:=()
def tw8299988053158372708:=()
def tw4450237115040526945:=()
def tw17373347270903314027:=()
def tw12299922024545424289:=()
def tw7041549617598096650:=()
def tw5706963296511576254:=()
def tw13984973591964142661:=()
def tw12196419092537413460:=()
def tw13345353029406102455:=()
def tw17127537680451315318:=()
def tw18084354355042116920:=()
def tw11751891521437017868:=()
def tw8851778904952222170:=()
def tw9674605886944491871:=()
def tw3658026207225518614:=()
def tw12367721211556325493:=()
def tw11285574398761297964:=()
def tw17080343598491290081:=()
def tw6456704553875007021:=()
def tw1032118566346108283:=()
def tw11433018837708853035:=()
def tw7724761056113653850:=()
def tw5523162369432020620:=()
def tw4628735579424499343:=()
def tw9434466019677452278:=()
def tw6158025480526758640:=()
def tw14378530766484460071:=()
def tw1161216782274776471:=()
def tw1295753967345450040:=()
def tw8053149247247612872:=()
def tw11416371350493919581:=()
def tw6575387369405290910:=()
def tw10938995889129302208:=()
def tw13087053462210345346:=()
def tw4669461121223343377:=()
def tw11664762096781463394:=()
def tw12170657804275594054:=()
def tw987801208761158335:=()
def tw13083827212609429373:=()
def tw5265709860347597531:=()
def tw2094729653253312694:=()
def tw12246719349778416610:=()
def tw8245953317815163645:=()
def tw3464518721583530258:=()
def tw15365379280433552285:=()
def tw15354362849986299001:=()
def tw8906572410306989243:=()
def tw1671384009278640045:=()
def tw15040100330208886330:=()
def tw17914794564979713435:=()
def tw9740205328842356570:=()
def tw9836957029948502359:=()
def tw11201633631217452240:=()
def tw13882454066511450444:=()
def tw1481940958261462641:=()
def tw17368327331634089410:=()
def tw542447291309612458:=()
def tw1892057734468271622:=()
def tw18168974760323951506:=()
def tw10776756622955505570:=()
def tw8289386792996237188:=()
def tw11669131104372851248:=()
def tw12117572868844340301:=()
def tw2310832810519786996:=()
def tw14612382305119512745:=()
def tw17895232471395832422:=()
def tw5441653932995010943:=()
def tw3374537423441331369:=()
def tw18281495994669725256:=()
def tw8650658183287694323:=()
def tw13214152690939578088:=()
def tw16923341830482360054:=()
def tw1962928731186015850:=()
def tw18091522879940674268:=()
def tw17540983745337859231:=()
def tw18095070315512764023:=()
def tw6882230829768154561:=()
def tw6149169074773956971:=()
def tw7243466837207528824:=()
def tw8608655838159435905:=()
def tw10534860295040298329:=()
def tw10588767573528841179:=()
def tw823568212284689931:=()
def tw12511587760217162134:=()
def tw5163833765012631014:=()
def tw2453573662910753960:=()
def tw15963895441656088995:=()
def tw14504102356811023757:=()
def tw13427529303112494286:=()
def tw12079009754499805316:=()
def tw14837187745166306065:=()
def tw13656934743533887704:=()
def tw1405614606001942060:=()
def tw17980112707224750706:=()
def tw14270828020021162275:=()
def tw12055538086947733665:=()
def tw3339747167367771665:=()
def tw3951935652197242515:=()
def tw8876375920072516947:=()
def tw3626814326001230900:=()
def tw4496592218986928355:=()
def tw1607371018688471143:=()
def tw15875368170834433544:=()
def tw6152460732121037685:=()
def tw73440026733073896:=()
def tw2352351204543707507:=()
def tw15386824730902674187:=()
def tw2109369248673718448:=()
def tw4997095527255091130:=()
def tw10194727035206735732:=()
def tw12124665996181920074:=()
def tw14336742058403944305:=()
def tw12694379831547178052:=()
def tw14006168367423488406:=()
def tw12517040909232873397:=()
def tw16609016687594184428:=()
def tw7364172980952230109:=()
def tw15569354727182128998:=()
def tw12726996633413337059:=()
def tw17151466900514013371:=()
def tw11837245657939962589:=()
def tw2732027169758344944:=()
def tw8461079877777102545:=()
def tw1778805796747430011:=()
def tw7586923291354248219:=()
def tw2712335991880420310:=()
def tw12320650095094116144:=()
def tw12645501863114422530:=()
def tw15090313595034015747:=()
def tw17627552483604137005:=()
def tw2177010081179516306:=()
def tw13093302749137324667:=()
def tw110945045558285563:=()
def tw406072539692981849:=()
def tw1789171859103454575:=()
def tw4720049387863658730:=()
def tw13283253189941030525:=()
def tw14171626587260560822:=()
def tw18030219403459266623:=()
def tw10247149421113292601:=()
def tw9480539297833860725:=()
def tw14650154099042070106:=()
def tw17617653640345820970:=()
def tw9992081058985843319:=()
def tw4781312238315081352:=()
def tw14248244057227580667:=()
def tw12595770072158524884:=()
def tw911708528937100413:=()
def tw6311153033391144610:=()
def tw2726796306195542306:=()
def tw3842829083850739608:=()
def tw14594169831280877691:=()
def tw16784686905976734861:=()
def tw7025703430025560183:=()
def tw3978400151666498918:=()
def tw3893797951193665877:=()
def tw6652693381828938633:=()
def tw1332559716038392891:=()
def tw12396801223896861956:=()
def tw24360143771466809:=()
def tw16901925679252398116:=()
def tw3429688398587411511:=()
def tw9119380156431763488:=()
def tw797901810921996201:=()
def tw741733485383868957:=()
def tw2068609860146391677:=()
def tw9395317929461045574:=()
def tw165555712697374558:=()
def tw11031775910657608469:=()
def tw9129895999975872260:=()
def tw11608375287483253811:=()
def tw7920381407680024284:=()
def tw985146071434140353:=()
def tw16608767983012242627:=()
def tw7537181051240628507:=()
def tw9070616243179730014:=()
def tw4501266083002078920:=()
def tw12996083011199477033:=()
def tw11803095006514476240:=()
def tw12383403089695940860:=()
def tw14317953543964495223:=()
def tw3486863334541959203:=()
def tw12698763914841324404:=()
def tw18256851879768282781:=()
def tw11246875601959608216:=()
def tw9900617317778166551:=()
def tw4024618843236029530:=()
def tw12890942366888015591:=()
def tw14722728995994764422:=()
def tw17157510927488119915:=()
def tw1646675788050696146:=()
def tw16623193104929743854:=()
def tw3246799229286672163:=()
def tw11488003693702206076:=()
def tw14758486145302783812:=()
def tw12303499336015600739:=()
def tw15563873379448398470:=()
def tw1899200435422151622:=()
def tw4138375168614669529:=()
def tw15158813796315893388:=()
def tw4019085409082792667:=()
def tw16336695929319644213:=()
def tw14037684462236104414:=()
def tw2968439510703711932:=()
def tw819216998043315766:=()
def tw15602703992372181876:=()
def tw5887599991558887975:=()
def tw3158933840938291072:=()
def tw6342244221503733726:=()
def tw2459502425158125253:=()
def tw2557917146380886890:=()
def tw12755182142874223465:=()
def tw9918798662773685706:=()
def tw15658337972313503646:=()
def tw5944598786932681104:=()
def tw9599519384933365909:=()
def tw8305747652560967460:=()
def tw12098462548579872772:=()
def tw295704664353455757:=()
def tw7182200286463230014:=()
def tw5179054383601374847:=()
def tw9203341700158258198:=()
def tw13650863307235992453:=()
def tw14318043744639920077:=()
def tw15381631123740196566:=()
def tw456483973809168281:=()
def tw14546677436079612889:=()
def tw18214761253372216436:=()
def tw16520520877202628134:=()
def tw8402967187400476396:=()
def tw496270004521057998:=()
def tw7089451716735187182:=()
def tw4940439669663661191:=()
def tw5077311669346467248:=()
def tw3849014815031171992:=()
def tw870336050694173701:=()
def tw6356203994959686803:=()
def tw15622705622645773560:=()
def tw9018283257707566107:=()
def tw5760264921422583384:=()
def tw13751334491230682612:=()
def tw15705570518254070366:=()
def tw15552957338265290015:=()
def tw13314835002194663117:=()
def tw16343135427938269491:=()
def tw4240098215948115254:=()
def tw740061388951450685:=()
def tw10701349223223481696:=()
def tw13369611390956002031:=()
def tw12114597214013717712:=()
def tw15650391995932962499:=()
def tw7249833740047779923:=()
def tw17373929048195614503:=()
def tw15661470280688414670:=()
def tw6472641793340918579:=()
def tw11136130016120160419:=()
def tw15527213878897557937:=()
def tw15463326793020232943:=()
def tw17003571986751958540:=()
def tw11711064894150341899:=()
def tw12940977362861153855:=()
def tw8319087326134073834:=()
def tw12666944079054631250:=()
def tw9223137326167236282:=()
def tw16781235359949142306:=()
def tw4574374632984383705:=()
def tw5095063923224282642:=()
def tw7829188892681022160:=()
def tw7819656026231191538:=()
def tw1242738153762689612:=()
def tw9896311940911913098:=()
def tw6674725823028981034:=()
def tw4947521097944995015:=()
def tw2730035444027624088:=()
def tw6617188636617158375:=()
def tw10872793440173858430:=()
def tw9599814670832092427:=()
def tw9794067710947939859:=()
def tw11545712361708067097:=()
def tw7897940188024679204:=()
def tw4641512217780502843:=()
def tw16871376037716910048:=()
def tw4714836926353495982:=()
def tw6913464255182348723:=()
def tw1120509466676689015:=()
def tw2927437582504610211:=()
def tw5788190021253442216:=()
def tw14835157459575614066:=()
def tw8466321324035228953:=()
def tw7768014151774437286:=()
def tw1606050652952682235:=()
def tw17148347709475029501:=()
def tw13833111639955446412:=()
def tw17309769622093753523:=()
def tw12539659509069140360:=()
def tw4996273728425689722:=()
def tw9853547274395859323:=()
def tw1433882693072082034:=()
def tw17657662697546414972:=()
def tw12177001999411357950:=()
def tw11315548521338850125:=()
def tw3488927183512695311:=()
def tw4742661365530230642:=()
def tw16594389477403270982:=()
def tw15754958773511376034:=()
def tw8720845690619840219:=()
def tw13799138484912754606:=()
def tw13879317290958979750:=()
def tw18207733269790547785:=()
def tw7438345575471979537:=()
def tw18223479663483947854:=()
def tw7699145151281333313:=()
def tw17096942152788285141:=()
def tw13317303557817257848:=()
def tw4348762899118892997:=()
def tw3299966014595904258:=()
def tw9845777935427372877:=()
def tw17808667823799690514:=()
def tw1385777063752573452:=()
def tw8971832867512576251:=()
def tw14531626706289830421:=()
def tw5927398694006902852:=()
def tw4865680475159868213:=()
def tw7216504199346693113:=()
def tw13266188538248676106:=()
def tw1176803384194706174:=()
def tw264130091647953396:=()
def tw5362201555883751591:=()
def tw4704278034391220204:=()
def tw15841569964641987320:=()
def tw15218146354683859175:=()
end PySem.W.Fast
set_option maxRecDepth 100000 in
set_option maxHeartbeats 0 in
theorem PySem.Challenge.cw_ownshelf_k60_whole_makes_share_nodes_holds : PySem.Challenge.rw_ownshelf_k60_whole_makes_share_nodes.Holds := by
 w_on;o_law;k_head;(case hw=>w_witness2)
 k_fill
 refine F.law_walkT (l:=PySem.Challenge.rw_ownshelf_k60_whole_makes_share_nodes) (k:=133) (g:=Pg.g_law) (x:="_law_script") Pg.tabs rfl rfl ⟨rfl,by decide,by decide⟩ (by decide) (by decide) rfl Pg.law_ok ?F
 case F=>
   intro w mg fa h KX G hmg;have ugk:mg "abs"=none:=by refine' z28 KX G ?a_7;k_is
   have uga:mg "len"=none:=by refine' z28 KX G ?a_8;k_is
   have uf1:mg "list"=none:=by refine' z28 KX G ?a_9;k_is
   have ugc:mg "max"=none:=by refine' z28 KX G ?a_10;k_is
   have ufh:mg "range"=none:=by refine' z28 KX G ?a_11;k_is
   have ufg:∃t,mg "ABOUT"=some (.int 1 t):=by refine' F.has_int KX G ?a_12;(case a_12=>k_is)
   have ufj:∃t,mg "AHEAD"=some (.int 0 t):=by refine' F.has_int KX G ?a_13;(case a_13=>k_is)
   have uf2:∃t,mg "BACK"=some (.int 8 t):=by refine' F.has_int KX G ?a_14;(case a_14=>k_is)
   have ue3:∃t,mg "BEHIND"=some (.int 2 t):=by refine' F.has_int KX G ?a_15;(case a_15=>k_is)
   have ue2:∃t,mg "HEIGHT"=some (.int 6 t):=by refine' F.has_int KX G ?a_16;(case a_16=>k_is)
   have ugl:∃t,mg "KEY"=some (.int 0 t):=by refine' F.has_int KX G ?a_17;(case a_17=>k_is)
   have ufw:∃t,mg "LEFT"=some (.int 2 t):=by refine' F.has_int KX G ?a_18;(case a_18=>k_is)
   have ue4:∃t,mg "MIDDLE"=some (.int 1 t):=by refine' F.has_int KX G ?a_19;(case a_19=>k_is)
   have ucu:∃t,mg "MOST_THINGS"=some (.int 2000 t):=by refine' F.has_int KX G ?a_20;(case a_20=>k_is)
   have ufk:∃t,mg "RIGHT"=some (.int 4 t):=by refine' F.has_int KX G ?a_21;(case a_21=>k_is)
   have uf5:∃t,mg "SIZE"=some (.int 5 t):=by refine' F.has_int KX G ?a_22;(case a_22=>k_is)
   have uff:∃t,mg "THING"=some (.int 3 t):=by refine' F.has_int KX G ?a_23;(case a_23=>k_is)
   have ufn:∃t,mg "TOTAL"=some (.int 7 t):=by refine' F.has_int KX G ?a_24;(case a_24=>k_is)
   have ufb:∃t,mg "TURNED"=some (.int 3 t):=by refine' F.has_int KX G ?a_25;(case a_25=>k_is)
   have ucs:F.Fld (L2.KOf KX) mg "Wood" "adding":=by refine' F.has_fld KX G ?aC_26 (F.has_cls KX G ?aC_26 ?pg_26 ?hd_26 ?po_26 ?sa_26) ?n_26;(case aC_26=>k_is);(case pg_26=>k_is);(case hd_26=>k_is);(case po_26=>k_is);(case sa_26=>k_is);(case n_26=>k_is)
   have ubl:F.Fld (L2.KOf KX) mg "Wood" "nodes_made":=by refine' F.has_fld KX G ?aC_27 (F.has_cls KX G ?aC_27 ?pg_27 ?hd_27 ?po_27 ?sa_27) ?n_27;(case aC_27=>k_is);(case pg_27=>k_is);(case hd_27=>k_is);(case po_27=>k_is);(case sa_27=>k_is);(case n_27=>k_is)
   have uby:F.HasMk (L2.KOf KX) mg "Wood" "Wood.__init__" Pg.s_Wood___init__ 1:=by refine' F.has_mk1 KX G ?aC_28 ?mk_28 ?kc_28 ?a_28 ?i_28 ?l_28 ?c_28 ?k_28 ?t_28;(case aC_28=>k_is);(case mk_28=>k_is);(case kc_28=>k_is);(case a_28=>k_is);(case i_28=>k_is);(case l_28=>k_is);(case c_28=>k_is);(case k_28=>k_is);(case t_28=>k_is)
   have ud0:F.HasDef (L2.KOf KX) mg "_law_cell" Pg.s__law_cell 0:=by refine' F.has_def KX G ?a_29 ?l_29 ?c_29 ?k_29;(case a_29=>k_is);(case l_29=>k_is);(case c_29=>k_is);(case k_29=>k_is)
   have udr:F.HasDef (L2.KOf KX) mg "_law_size" Pg.s__law_size 0:=by refine' F.has_def KX G ?a_30 ?l_30 ?c_30 ?k_30;(case a_30=>k_is);(case l_30=>k_is);(case c_30=>k_is);(case k_30=>k_is)
   have uc8:F.HasDef (L2.KOf KX) mg "_law_mixed" Pg.s__law_mixed 0:=by refine' F.has_def KX G ?a_31 ?l_31 ?c_31 ?k_31;(case a_31=>k_is);(case l_31=>k_is);(case c_31=>k_is);(case k_31=>k_is)
   have udd:F.HasDef (L2.KOf KX) mg "_law_thing" Pg.s__law_thing 0:=by refine' F.has_def KX G ?a_32 ?l_32 ?c_32 ?k_32;(case a_32=>k_is);(case l_32=>k_is);(case c_32=>k_is);(case k_32=>k_is)
   have uch:F.HasDef (L2.KOf KX) mg "check_place" Pg.s_check_place 0:=by refine' F.has_def KX G ?a_33 ?l_33 ?c_33 ?k_33;(case a_33=>k_is);(case l_33=>k_is);(case c_33=>k_is);(case k_33=>k_is)
   have ubw:F.HasMth (L2.KOf KX) mg "Wood" "numbered" "Wood.numbered" Pg.s_Wood_numbered:=by refine' F.has_mth KX G ?aC_34 (F.has_cls KX G ?aC_34 ?pg_34 ?hd_34 ?po_34 ?sa_34) ?a_34 ?i_34 ?l_34 ?c_34 ?k_34;(case aC_34=>k_is);(case pg_34=>k_is);(case hd_34=>k_is);(case po_34=>k_is);(case sa_34=>k_is);(case a_34=>k_is);(case i_34=>k_is);(case l_34=>k_is);(case c_34=>k_is);(case k_34=>k_is)
   have uc4:F.HasDef (L2.KOf KX) mg "check_room" Pg.s_check_room 0:=by refine' F.has_def KX G ?a_35 ?l_35 ?c_35 ?k_35;(case a_35=>k_is);(case l_35=>k_is);(case c_35=>k_is);(case k_35=>k_is)
   have ue0:F.HasDef (L2.KOf KX) mg "height" Pg.s_height 0:=by refine' F.has_def KX G ?a_36 ?l_36 ?c_36 ?k_36;(case a_36=>k_is);(case l_36=>k_is);(case c_36=>k_is);(case k_36=>k_is)
   have ub6:F.HasDef (L2.KOf KX) mg "height_above" Pg.s_height_above 0:=by refine' F.has_def KX G ?a_37 ?l_37 ?c_37 ?k_37;(case a_37=>k_is);(case l_37=>k_is);(case c_37=>k_is);(case k_37=>k_is)
   have udj:F.HasDef (L2.KOf KX) mg "in_balance" Pg.s_in_balance 0:=by refine' F.has_def KX G ?a_38 ?l_38 ?c_38 ?k_38;(case a_38=>k_is);(case l_38=>k_is);(case c_38=>k_is);(case k_38=>k_is)
   have ufz:F.HasDef (L2.KOf KX) mg "size" Pg.s_size 0:=by refine' F.has_def KX G ?a_39 ?l_39 ?c_39 ?k_39;(case a_39=>k_is);(case l_39=>k_is);(case c_39=>k_is);(case k_39=>k_is)
   have udg:F.HasDef (L2.KOf KX) mg "size_above" Pg.s_size_above 0:=by refine' F.has_def KX G ?a_40 ?l_40 ?c_40 ?k_40;(case a_40=>k_is);(case l_40=>k_is);(case c_40=>k_is);(case k_40=>k_is)
   have ucl:F.HasDef (L2.KOf KX) mg "_law_before" Pg.s__law_before 0:=by refine' F.has_def KX G ?a_41 ?l_41 ?c_41 ?k_41;(case a_41=>k_is);(case l_41=>k_is);(case c_41=>k_is);(case k_41=>k_is)
   have uc1:F.HasDef (L2.KOf KX) mg "_law_joined" Pg.s__law_joined 0:=by refine' F.has_def KX G ?a_42 ?l_42 ?c_42 ?k_42;(case a_42=>k_is);(case l_42=>k_is);(case c_42=>k_is);(case k_42=>k_is)
   have uf9:F.HasDef (L2.KOf KX) mg "back" Pg.s_back 0:=by refine' F.has_def KX G ?a_43 ?l_43 ?c_43 ?k_43;(case a_43=>k_is);(case l_43=>k_is);(case c_43=>k_is);(case k_43=>k_is)
   have ucd:F.HasDef (L2.KOf KX) mg "backward_sum" Pg.s_backward_sum 0:=by refine' F.has_def KX G ?a_44 ?l_44 ?c_44 ?k_44;(case a_44=>k_is);(case l_44=>k_is);(case c_44=>k_is);(case k_44=>k_is)
   have ufe:F.HasDef (L2.KOf KX) mg "total" Pg.s_total 0:=by refine' F.has_def KX G ?a_45 ?l_45 ?c_45 ?k_45;(case a_45=>k_is);(case l_45=>k_is);(case c_45=>k_is);(case k_45=>k_is)
   have udm:F.HasDef (L2.KOf KX) mg "onward_sum" Pg.s_onward_sum 0:=by refine' F.has_def KX G ?a_46 ?l_46 ?c_46 ?k_46;(case a_46=>k_is);(case l_46=>k_is);(case c_46=>k_is);(case k_46=>k_is)
   have uc5:F.HasDef (L2.KOf KX) mg "sums_above" Pg.s_sums_above 0:=by refine' F.has_def KX G ?a_47 ?l_47 ?c_47 ?k_47;(case a_47=>k_is);(case l_47=>k_is);(case c_47=>k_is);(case k_47=>k_is)
   have udu:F.HasMth (L2.KOf KX) mg "Wood" "node" "Wood.node" Pg.s_Wood_node:=by refine' F.has_mth KX G ?aC_48 (F.has_cls KX G ?aC_48 ?pg_48 ?hd_48 ?po_48 ?sa_48) ?a_48 ?i_48 ?l_48 ?c_48 ?k_48;(case aC_48=>k_is);(case pg_48=>k_is);(case hd_48=>k_is);(case po_48=>k_is);(case sa_48=>k_is);(case a_48=>k_is);(case i_48=>k_is);(case l_48=>k_is);(case c_48=>k_is);(case k_48=>k_is)
   have ucp:F.HasMth (L2.KOf KX) mg "Wood" "turned" "Wood.turned" Pg.s_Wood_turned:=by refine' F.has_mth KX G ?aC_49 (F.has_cls KX G ?aC_49 ?pg_49 ?hd_49 ?po_49 ?sa_49) ?a_49 ?i_49 ?l_49 ?c_49 ?k_49;(case aC_49=>k_is);(case pg_49=>k_is);(case hd_49=>k_is);(case po_49=>k_is);(case sa_49=>k_is);(case a_49=>k_is);(case i_49=>k_is);(case l_49=>k_is);(case c_49=>k_is);(case k_49=>k_is)
   have ufo:F.HasDef (L2.KOf KX) mg "parts" Pg.s_parts 0:=by refine' F.has_def KX G ?a_50 ?l_50 ?c_50 ?k_50;(case a_50=>k_is);(case l_50=>k_is);(case c_50=>k_is);(case k_50=>k_is)
   have ucv:F.HasDef (L2.KOf KX) mg "lifted_left" Pg.s_lifted_left 0:=by refine' F.has_def KX G ?a_51 ?l_51 ?c_51 ?k_51;(case a_51=>k_is);(case l_51=>k_is);(case c_51=>k_is);(case k_51=>k_is)
   have ub7:F.HasDef (L2.KOf KX) mg "lifted_right" Pg.s_lifted_right 0:=by refine' F.has_def KX G ?a_52 ?l_52 ?c_52 ?k_52;(case a_52=>k_is);(case l_52=>k_is);(case c_52=>k_is);(case k_52=>k_is)
   have uek:F.HasDef (L2.KOf KX) mg "balanced" Pg.s_balanced 0:=by refine' F.has_def KX G ?a_53 ?l_53 ?c_53 ?k_53;(case a_53=>k_is);(case l_53=>k_is);(case c_53=>k_is);(case k_53=>k_is)
   have ufc:F.HasDef (L2.KOf KX) mg "joined" Pg.s_joined 0:=by refine' F.has_def KX G ?a_54 ?l_54 ?c_54 ?k_54;(case a_54=>k_is);(case l_54=>k_is);(case c_54=>k_is);(case k_54=>k_is)
   have udz:F.HasDef (L2.KOf KX) mg "cut_ahead" Pg.s_cut_ahead 0:=by refine' F.has_def KX G ?a_55 ?l_55 ?c_55 ?k_55;(case a_55=>k_is);(case l_55=>k_is);(case c_55=>k_is);(case k_55=>k_is)
   have ugd:F.HasDef (L2.KOf KX) mg "cut" Pg.s_cut 0:=by refine' F.has_def KX G ?a_56 ?l_56 ?c_56 ?k_56;(case a_56=>k_is);(case l_56=>k_is);(case c_56=>k_is);(case k_56=>k_is)
   have uf4:F.HasDef (L2.KOf KX) mg "seen" Pg.s_seen 0:=by refine' F.has_def KX G ?a_57 ?l_57 ?c_57 ?k_57;(case a_57=>k_is);(case l_57=>k_is);(case c_57=>k_is);(case k_57=>k_is)
   have uef:F.HasDef (L2.KOf KX) mg "thing_at" Pg.s_thing_at 0:=by refine' F.has_def KX G ?a_58 ?l_58 ?c_58 ?k_58;(case a_58=>k_is);(case l_58=>k_is);(case c_58=>k_is);(case k_58=>k_is)
   have ub1:F.HasDef (L2.KOf KX) mg "laid_together" Pg.s_laid_together 0:=by refine' F.has_def KX G ?a_59 ?l_59 ?c_59 ?k_59;(case a_59=>k_is);(case l_59=>k_is);(case c_59=>k_is);(case k_59=>k_is)
   have udy:F.HasDef (L2.KOf KX) mg "taken_out" Pg.s_taken_out 0:=by refine' F.has_def KX G ?a_60 ?l_60 ?c_60 ?k_60;(case a_60=>k_is);(case l_60=>k_is);(case c_60=>k_is);(case k_60=>k_is)
   have uf6:F.HasDef (L2.KOf KX) mg "laid" Pg.s_laid 0:=by refine' F.has_def KX G ?a_61 ?l_61 ?c_61 ?k_61;(case a_61=>k_is);(case l_61=>k_is);(case c_61=>k_is);(case k_61=>k_is)
   have ugn:F.HasDef (L2.KOf KX) mg "out" Pg.s_out 0:=by refine' F.has_def KX G ?a_62 ?l_62 ?c_62 ?k_62;(case a_62=>k_is);(case l_62=>k_is);(case c_62=>k_is);(case k_62=>k_is)
   have ub4:F.HasDef (L2.KOf KX) mg "check_stretch" Pg.s_check_stretch 0:=by refine' F.has_def KX G ?a_63 ?l_63 ?c_63 ?k_63;(case a_63=>k_is);(case l_63=>k_is);(case c_63=>k_is);(case k_63=>k_is)
   have uf8:F.HasDef (L2.KOf KX) mg "part" Pg.s_part 0:=by refine' F.has_def KX G ?a_64 ?l_64 ?c_64 ?k_64;(case a_64=>k_is);(case l_64=>k_is);(case c_64=>k_is);(case k_64=>k_is)
   have ue6:F.HasDef (L2.KOf KX) mg "put_in" Pg.s_put_in 0:=by refine' F.has_def KX G ?a_65 ?l_65 ?c_65 ?k_65;(case a_65=>k_is);(case l_65=>k_is);(case c_65=>k_is);(case k_65=>k_is)
   have ugj:F.HasDef (L2.KOf KX) mg "put" Pg.s_put 0:=by refine' F.has_def KX G ?a_66 ?l_66 ?c_66 ?k_66;(case a_66=>k_is);(case l_66=>k_is);(case c_66=>k_is);(case k_66=>k_is)
   have ufq:F.HasDef (L2.KOf KX) mg "given" Pg.s_given 0:=by refine' F.has_def KX G ?a_67 ?l_67 ?c_67 ?k_67;(case a_67=>k_is);(case l_67=>k_is);(case c_67=>k_is);(case k_67=>k_is)
   have ueq:F.HasDef (L2.KOf KX) mg "swapped" Pg.s_swapped 0:=by refine' F.has_def KX G ?a_68 ?l_68 ?c_68 ?k_68;(case a_68=>k_is);(case l_68=>k_is);(case c_68=>k_is);(case k_68=>k_is)
   have ucx:F.HasDef (L2.KOf KX) mg "turned_part" Pg.s_turned_part 0:=by refine' F.has_def KX G ?a_69 ?l_69 ?c_69 ?k_69;(case a_69=>k_is);(case l_69=>k_is);(case c_69=>k_is);(case k_69=>k_is)
   have uea:F.HasDef (L2.KOf KX) mg "_law_deed" Pg.s__law_deed 0:=by refine' F.has_def KX G ?a_70 ?l_70 ?c_70 ?k_70;(case a_70=>k_is);(case l_70=>k_is);(case c_70=>k_is);(case k_70=>k_is)
   have udx:F.HasDef (L2.KOf KX) mg "_law_high" Pg.s__law_high 0:=by refine' F.has_def KX G ?a_71 ?l_71 ?c_71 ?k_71;(case a_71=>k_is);(case l_71=>k_is);(case c_71=>k_is);(case k_71=>k_is)
   have ubv:F.HasDef (L2.KOf KX) mg "_law_of_nodes" Pg.s__law_of_nodes 0:=by refine' F.has_def KX G ?a_72 ?l_72 ?c_72 ?k_72;(case a_72=>k_is);(case l_72=>k_is);(case c_72=>k_is);(case k_72=>k_is)
   have uej:F.HasDef (L2.KOf KX) mg "_law_few" Pg.s__law_few 0:=by refine' F.has_def KX G ?a_73 ?l_73 ?c_73 ?k_73;(case a_73=>k_is);(case l_73=>k_is);(case c_73=>k_is);(case k_73=>k_is)
   have ucr:F.HasDef (L2.KOf KX) mg "_law_number" Pg.s__law_number 0:=by refine' F.has_def KX G ?a_74 ?l_74 ?c_74 ?k_74;(case a_74=>k_is);(case l_74=>k_is);(case c_74=>k_is);(case k_74=>k_is)
   have ud2:F.HasDef (L2.KOf KX) mg "_law_told" Pg.s__law_told 0:=by refine' F.has_def KX G ?a_75 ?l_75 ?c_75 ?k_75;(case a_75=>k_is);(case l_75=>k_is);(case c_75=>k_is);(case k_75=>k_is)
   have ubx:F.HasDef (L2.KOf KX) mg "_law_one_node" Pg.s__law_one_node 0:=by refine' F.has_def KX G ?a_76 ?l_76 ?c_76 ?k_76;(case a_76=>k_is);(case l_76=>k_is);(case c_76=>k_is);(case k_76=>k_is)
   have ugw:F.HasDef (L2.KOf KX) mg "at" Pg.s_at 0:=by refine' F.has_def KX G ?a_77 ?l_77 ?c_77 ?k_77;(case a_77=>k_is);(case l_77=>k_is);(case c_77=>k_is);(case k_77=>k_is)
   have uco:F.HasDef (L2.KOf KX) mg "is_alike_at" Pg.s_is_alike_at 0:=by refine' F.has_def KX G ?a_78 ?l_78 ?c_78 ?k_78;(case a_78=>k_is);(case l_78=>k_is);(case c_78=>k_is);(case k_78=>k_is)
   have uce:F.HasDef (L2.KOf KX) mg "count_before" Pg.s_count_before 0:=by refine' F.has_def KX G ?a_79 ?l_79 ?c_79 ?k_79;(case a_79=>k_is);(case l_79=>k_is);(case c_79=>k_is);(case k_79=>k_is)
   have uee:F.HasDef (L2.KOf KX) mg "place_of" Pg.s_place_of 0:=by refine' F.has_def KX G ?a_80 ?l_80 ?c_80 ?k_80;(case a_80=>k_is);(case l_80=>k_is);(case c_80=>k_is);(case k_80=>k_is)
   have ufi:F.HasDef (L2.KOf KX) mg "added" Pg.s_added 0:=by refine' F.has_def KX G ?a_81 ?l_81 ?c_81 ?k_81;(case a_81=>k_is);(case l_81=>k_is);(case c_81=>k_is);(case k_81=>k_is)
   have ubp:F.HasDef (L2.KOf KX) mg "place_of_alike" Pg.s_place_of_alike 0:=by refine' F.has_def KX G ?a_82 ?l_82 ?c_82 ?k_82;(case a_82=>k_is);(case l_82=>k_is);(case c_82=>k_is);(case k_82=>k_is)
   have uep:F.HasDef (L2.KOf KX) mg "dropped" Pg.s_dropped 0:=by refine' F.has_def KX G ?a_83 ?l_83 ?c_83 ?k_83;(case a_83=>k_is);(case l_83=>k_is);(case c_83=>k_is);(case k_83=>k_is)
   have ufs:F.HasDef (L2.KOf KX) mg "built" Pg.s_built 0:=by refine' F.has_def KX G ?a_84 ?l_84 ?c_84 ?k_84;(case a_84=>k_is);(case l_84=>k_is);(case c_84=>k_is);(case k_84=>k_is)
   have uer:F.HasDef (L2.KOf KX) mg "make_of" Pg.s_make_of 0:=by refine' F.has_def KX G ?a_85 ?l_85 ?c_85 ?k_85;(case a_85=>k_is);(case l_85=>k_is);(case c_85=>k_is);(case k_85=>k_is)
   have ue1:F.HasDef (L2.KOf KX) mg "by_key" Pg.s_by_key 0:=by refine' F.has_def KX G ?a_86 ?l_86 ?c_86 ?k_86;(case a_86=>k_is);(case l_86=>k_is);(case c_86=>k_is);(case k_86=>k_is)
   have udb:F.HasDef (L2.KOf KX) mg "with_value" Pg.s_with_value 0:=by refine' F.has_def KX G ?a_87 ?l_87 ?c_87 ?k_87;(case a_87=>k_is);(case l_87=>k_is);(case c_87=>k_is);(case k_87=>k_is)
   have uex:F.HasDef (L2.KOf KX) mg "sought" Pg.s_sought 0:=by refine' F.has_def KX G ?a_88 ?l_88 ?c_88 ?k_88;(case a_88=>k_is);(case l_88=>k_is);(case c_88=>k_is);(case k_88=>k_is)
   have ueu:F.HasDef (L2.KOf KX) mg "without" Pg.s_without 0:=by refine' F.has_def KX G ?a_89 ?l_89 ?c_89 ?k_89;(case a_89=>k_is);(case l_89=>k_is);(case c_89=>k_is);(case k_89=>k_is)
   have ub3:F.HasDef (L2.KOf KX) mg "_law_sets_too" Pg.s__law_sets_too 0:=by refine' F.has_def KX G ?a_90 ?l_90 ?c_90 ?k_90;(case a_90=>k_is);(case l_90=>k_is);(case c_90=>k_is);(case k_90=>k_is)
   have uck:F.HasDef (L2.KOf KX) mg "_law_things" Pg.s__law_things 0:=by refine' F.has_def KX G ?a_91 ?l_91 ?c_91 ?k_91;(case a_91=>k_is);(case l_91=>k_is);(case c_91=>k_is);(case k_91=>k_is)
   have ue8:F.HasDef (L2.KOf KX) mg "law" Pg.s_law 0:=by refine' F.has_def KX G ?a_92 ?l_92 ?c_92 ?k_92;(case a_92=>k_is);(case l_92=>k_is);(case c_92=>k_is);(case k_92=>k_is)
   obtain⟨fa',fd,hm,hb,hF⟩:=Pg.law_all (P:=(PySem.Challenge.rw_ownshelf_k60_whole_makes_share_nodes).prog) (w:=w) (fun base hB=>⟨ugk,uga,uf1,ugc,ufh,ufg,ufj,uf2,ue3,ue2,ugl,ufw,ue4,ucu,ufk,uf5,uff,ufn,ufb,ucs,ubl,hB,uby,ud0,udr,uc8,udd,uch,ubw,uc4,ue0,ub6,udj,ufz,udg,ucl,uc1,uf9,ucd,ufe,udm,uc5,udu,ucp,ufo,ucv,ub7,uek,ufc,udz,ugd,uf4,uef,ub1,udy,uf6,ugn,ub4,uf8,ue6,ugj,ufq,ueq,ucx,uea,udx,ubv,uej,ucr,ud2,ubx,ugw,uco,uce,uee,ufi,ubp,uep,ufs,uer,ue1,udb,uex,ueu,ub3,uck,ue8⟩) ue8;have e:=hmg.symm.trans hm;cases e;refine⟨fun i p Q e1 e2=>?_,fd,hb,fun base _ _ hB=>hF base hB⟩
   match i,e1,e2 with
   | 0,e1,e2=>
     cases e1;cases e2;refine' F.has_tab (st:=Pg.s_by_key) KX G ?ta0_94 ?tl0_94 ?tz0_94;(case ta0_94=>k_is);(case tl0_94=>k_is);(case tz0_94=>kernel_rfl)
   |i+1,e1,_=>cases e1
