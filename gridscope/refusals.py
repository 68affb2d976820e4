"""What is refused, told by the name of its class."""

from gridscope.errors import (BadAxis, BadHold, BadLook, BadMany, BadScreen, BadScroll, BadSize, BadText, BadWay, Full,
                              Inside, NoCell, NoIndex, NoPlace, NothingLeft, NotMerged, Overlap)


def asked(ask, *handed):
    """The pair (what is told, None), or (None, the refusal's name) where it is refused."""
    try:
        return (ask(*handed), None)
    except BadSize:
        return (None, "BadSize")
    except BadMany:
        return (None, "BadMany")
    except BadText:
        return (None, "BadText")
    except BadLook:
        return (None, "BadLook")
    except BadAxis:
        return (None, "BadAxis")
    except BadHold:
        return (None, "BadHold")
    except BadScreen:
        return (None, "BadScreen")
    except BadScroll:
        return (None, "BadScroll")
    except BadWay:
        return (None, "BadWay")
    except Full:
        return (None, "Full")
    except NotMerged:
        return (None, "NotMerged")
    except Inside:
        return (None, "Inside")
    except Overlap:
        return (None, "Overlap")
    except NoCell:
        return (None, "NoCell")
    except NoIndex:
        return (None, "NoIndex")
    except NoPlace:
        return (None, "NoPlace")
    except NothingLeft:
        return (None, "NothingLeft")
