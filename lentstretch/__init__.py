"""An address server of many subnets, with a journal."""
