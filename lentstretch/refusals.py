"""What a call answers when it is refused, each a number below 0.

The document uses one number for several reasons; a name here tells what these have in common.
"""

NOT_BEGUN = -1
OUT_OF_RANGE = -2
TOO_LATE = -3
NO_SUBNET = -4
TOO_MANY = -5
UNFIT = -6
THERE_ALREADY = -7
NOT_THERE = -8
NO_ROOM = -9
NOT_FREE = -10
CLASS_FULL = -11
LEASE_HINDERS = -12
NO_ADDRESS = -13
