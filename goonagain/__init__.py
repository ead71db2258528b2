"""goonagain: programs whose rests are kept and gone on with."""
